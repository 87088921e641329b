import PyProof.Rows.All
import Wide.All
import OpenK.AllK
import Wide.FinOn
import HandS.ForMost
import HandS.Walk
import HandS.Codes
import HandS.IsInst
import HandS.Defaults
import HandS.Star
import HandS.Flow
import HandS.Style
import HandS.CallLocal
import HandS.More
import HandS.ForExc
import HandS.ExcInit
import HandS.ExcIs
import HandS.ExcField
import KE.KExcIs
import KE.KExcInit
import HandS.Zip
import HandS.DeepEq
import PyProof.Rows.NestShow
import HandS.TupAny
import HandS.RevRange
import HandS.Text
import PyProof.StrLawsRepr
import HandS.StrMore
import KE.IntTextText
import KE.KDictKeyed
import KE.GoesMore
import PyProof.EnumMake
import PyProof.Draws
import HandS.DictComp
import HandS.Conv
import HandS.Deep
import HandS.Dict
import HandS.FStr
import HandS.TryOnly
import HandS.DictTup
import HandS.TupLen
import HandS.SetFor
import HandS.Strs
import HandS.Set
import HandS.Spec
import PyProof.AutoSeq1
import HandS.Sort
import KE.LtData
import KE.DataEq
import HandS.MakeKwOnly
import HandS.TupMul
import HandS.List
import KE.DataMinMax
import PyProof.Claim2Refuses
import PySem.Challenge.RW_threereckons_k17_least_trees
set_option Elab.async false
set_option linter.all false
set_option maxRecDepth 100000
set_option maxHeartbeats 4000000
namespace Thr
open PySem PySem.Spec PyProof.Rows L2
/-! ### heaps -/
theorem same_upd {H : Hp} {p : Addr} {o : HO} (h : H p = none) : Same H (upd H p o) := fun b x e => by
  rw [upd_ne (ne_of_none e h)]
  exact e
/-- all but what stands at a -/
def But (a : Addr) (H H' : Hp) : Prop := ∀ b o, b ≠ a → H b = some o → H' b = some o
theorem But.refl (a : Addr) (H : Hp) : But a H H := fun _ _ _ h => h
theorem But.trans {a : Addr} {H H1 H2 : Hp} (x : But a H H1) (y : But a H1 H2) : But a H H2 := fun b o n h => y b o n (x b o n h)
theorem But.of {a : Addr} {H H' : Hp} (s : Same H H') : But a H H' := fun b o _ h => s b o h
theorem But.upd {a : Addr} {H H' : Hp} {o : HO} (x : But a H H') : But a H (upd H' a o) := fun b u n h => by
  rw [upd_ne n]
  exact x b u n h
theorem But.new {a p : Addr} {H H' : Hp} {o : HO} (x : But a H H') (h : H' p = none) : But a H (L2.upd H' p o) := fun b u n e => by
  have e' := x b u n e
  rw [upd_ne (ne_of_none e' h)]
  exact e'
theorem But.seq {K : PySem.W.Frag} {H H' : Hp} {a b : Addr} {xs : List V} (e : But a H H') (n : b ≠ a) (h : SqL K H b xs) : SqL K H' b xs := by
  rcases h with (h | ⟨o, h⟩) | h
  · exact .inl (.inl (e _ _ n h))
  · exact .inl (.inr ⟨o, e _ _ n h⟩)
  · exact .inr h
/-! ### a def of the top, under its name -/
structure Dd (K : PySem.W.Frag) (mg : Str → Option Value) (x : Str) (st : Stmt) (ps : List Str) : Prop where
  ex : ∃ (f : Addr) (fd : FuncData), L2.Fun K x x st f fd ∧ mg x = some (.ref f) ∧ Binds K fd ps []
section
variable {P : Program} {w : World} {K : PySem.W.Frag} {mg : Str → Option Value} {base : Heap}
theorem Dd.cal {x : Str} {st : Stmt} {N ps : List Str} {k : Nat} {sp : Sp} (D : Dd K mg x st ps) (S : FnScope N ps (defScope st)) (len : ∀ vs H Q E, sp vs H Q E → vs.length = ps.length)
    (hbody : ∀ (f : Addr) (cdv : Value) (A : Around) (outer : List Env) (s : Shared) (H : Hp) (vs : List V) (Q : VK) (E : XK), Room k (A.deeper (envOfC x (defScope st) s.heap.objs.size f cdv)) → sp vs H Q E →
      ∃ t, PSs (cxOf CX0 P w K mg base N x (defScope st) f cdv A outer s H E).nox (defBody st) t ∧ t { nx := fun _ H' => Q .non H', rt := Q } (start N vs) H) : C8.Cal P w K mg base (k + 1) x sp [] := by
  obtain ⟨f, fd, F, g, b⟩ := D.ex
  exact ⟨f, fd, ps, [], F.ok S len (fun cdv A outer s H vs Q E hr h => hbody f cdv A outer s H vs Q E hr h), g, F.kp, b, .nil⟩
end
/-! ### what is drawn from -/
def BoxL (n : Nat) (b : List V) : Prop := ∃ b0 b1 b2 : Int, b = [.int b0, .int b1, .int b2] ∧ 0 ≤ b0 ∧ 0 ≤ b1 ∧ b1 < 4611686018427387904 ∧ 0 ≤ b2 ∧ b2 ≤ n
def spTake : Sp := fun vs H Q _ => ∃ (a : Addr) (many : Int) (n : Nat) (b : List V), vs = [.ref a, .int many] ∧ H a = some (.lst b) ∧ BoxL n b ∧ n < 1000000 ∧ 0 < many ∧ many < 1073741824 ∧
  ∀ (r : Int) (b' : List V), 0 ≤ r → r < many → BoxL (n + 1) b' → Q (.int r) (upd H a (.lst b'))
def spDip (K : PySem.W.Frag) : Sp := fun vs H Q _ => ∃ (a : Addr) (k : Nat) (ns : List Int), vs = [.ref a, .int k] ∧ SqL K H a (ns.map V.int) ∧ k ≤ 63 ∧
  ∀ (p : Addr) (b : List V), H p = none → BoxL 0 b → Q (.ref p) (upd H p (.lst b))
def spFold (K : PySem.W.Frag) : Sp := fun vs H Q _ => ∃ (a : Addr) (size : Nat) (ns : List Int), vs = [.ref a, .int size] ∧ SqL K H a (ns.map V.int) ∧ ns.length ≤ 63 ∧ 1 ≤ size ∧ size ≤ 8 ∧
  ∀ (H' : Hp) (p : Addr) (ms : List Int), Same H H' → H p = none → H' p = some (.lst (ms.map V.int)) → ms.length ≤ size → Q (.ref p) H'
/-- the built-in names that the law uses stand as they were -/
structure Bt (mg : Str → Option Value) : Prop where
  len : mg "len" = none
  abs : mg "abs" = none
  int : mg "int" = none
  list : mg "list" = none
  enumerate : mg "enumerate" = none
  range : mg "range" = none
theorem cut_len (xs : List V) (lo hi : Option Int) : (cutV xs lo hi).length ≤ xs.length := by
  unfold cutV
  rw [List.length_take, List.length_drop]
  omega
theorem cut_ints (ns : List Int) (lo hi : Option Int) : ∃ ms : List Int, cutV (ns.map V.int) lo hi = ms.map V.int ∧ ms.length ≤ ns.length := by
  refine ⟨(ns.drop (HT.sIx (ns.map V.int).length 0 lo)).take (HT.sIx (ns.map V.int).length (ns.map V.int).length hi - HT.sIx (ns.map V.int).length 0 lo), ?_, ?_⟩
  · unfold cutV
    rw [List.map_take, List.map_drop]
  · rw [List.length_take, List.length_drop]
    omega
theorem cut_to (ns : List Int) (size : Nat) : cutV (ns.map V.int) none (some (size : Int)) = (ns.take size).map V.int := by
  unfold cutV
  rw [HT.sIx_none, show HT.sIx (ns.map V.int).length (ns.map V.int).length (some (size : Int)) = min size (ns.map V.int).length from HT.sIx_nat _ _ size, List.map_take, List.length_map]
  show ((ns.map V.int).drop 0).take (min size ns.length - 0) = _
  rw [List.drop_zero, Nat.sub_zero]
  by_cases h : size ≤ ns.length
  · rw [Nat.min_eq_left h]
  · rw [Nat.min_eq_right (by omega), List.take_of_length_le (by rw [List.length_map]; omega), List.take_of_length_le (by rw [List.length_map]; omega)]
theorem cut_from_nil (ns : List Int) (size : Nat) (h : ns.length ≤ size) (hi : Option Int) : cutV (ns.map V.int) (some (size : Int)) hi = [] := by
  unfold cutV
  rw [show HT.sIx (ns.map V.int).length 0 (some (size : Int)) = min size (ns.map V.int).length from HT.sIx_nat _ _ size, List.drop_eq_nil_of_le (by rw [List.length_map]; omega), List.take_nil]
section
variable {X : Cx} {k j n i : Nat} {x : Str} {sp : Sp} {p pos : Pos} {e : Expr} {es : List Expr} {kws : List Keyword} {t tk : TA} {te : TE} {ks : List Str} {gV : List V → List V → List V}
/-! ### what is never reached -/
theorem pe_never {e : Expr} : PE X e (fun _ _ _ => False) := ⟨fun _ _ _ _ _ _ h => h.elim⟩
theorem pt_never {e : Expr} : PT X e (fun _ _ _ => False) := ⟨fun _ _ _ _ _ _ h => h.elim⟩
/-! ### calls with keywords -/
structure KCal (P : Program) (w : World) (K : PySem.W.Frag) (mg : Str → Option Value) (base : Heap) (k : Nat) (x : Str) (sp : Sp) (n : Nat) (ks : List Str) (gV : List V → List V → List V) : Prop where
  ex : ∃ (f : Addr) (fd : FuncData) (ps : List Str) (g : List Value → List Value → List Value), FnOk P w K mg base CX0 k f fd ps sp ∧ mg x = some (.ref f) ∧ PySem.W.keepIn K (.ref f) = true ∧ KBn K fd ps n ks g gV
theorem pe_kw (c : KCal X.prog X.w X.K X.mg X.base k x sp n ks gV) (hr : Room j X.A) (hk : k ≤ j) (hg : Gl X x) (ha : PA X (e :: es) t) (hkw : PK X kws tk)
    (hall : (backToKw pos (keywordEach kws X.env)).all (·.1.isSome) = true := by rfl) (hks : (backToKw pos (keywordEach kws X.env)).filterMap (·.1) = ks := by rfl)
    (hdb : (x == ("__debug__" : Str)) = false := by decide) (he : starEach (e :: es) X.env = (false, eval e X.env) :: starEach es X.env := by rfl)
    (hpl : ((backTo pos (starEach (e :: es) X.env)).any (·.1) || (backToKw pos (keywordEach kws X.env)).any (·.1.isNone)) = false := by rfl) :
    PE X (.Call (.Name x p) (e :: es) kws pos) (tCallN n ks.length sp gV E0 t tk) := by
  obtain ⟨f, fd, ps, g, F, hm, kp, b⟩ := c.ex
  exact pe_callN F (hr.mono hk) hg hm kp b pass0 ha hkw hall hks hdb he hpl
theorem pe_kw0 (c : KCal X.prog X.w X.K X.mg X.base k x sp 0 ks gV) (hr : Room j X.A) (hk : k ≤ j) (hg : Gl X x) (hkw : PK X kws tk)
    (hall : (backToKw pos (keywordEach kws X.env)).all (·.1.isSome) = true := by rfl) (hks : (backToKw pos (keywordEach kws X.env)).filterMap (·.1) = ks := by rfl)
    (hdb : (x == ("__debug__" : Str)) = false := by decide)
    (hpl : ((backTo pos (starEach [] X.env)).any (·.1) || (backToKw pos (keywordEach kws X.env)).any (·.1.isNone)) = false := by rfl) :
    PE X (.Call (.Name x p) [] kws pos) (tCallN 0 ks.length sp gV E0 tNil tk) := by
  obtain ⟨f, fd, ps, g, F, hm, kp, b⟩ := c.ex
  refine ⟨fun pins s σ H Q I h => ?_⟩
  refine wpAny_Call_Name_kw (ld_glob I hg hm ?_ hdb)
  refine PySem.W.callWith_KW0 (h₀ := X.base) I.ok.mod.kin kp hall ?_ hpl
  refine thn (hkw.run pos pins s σ H _ I h) fun ws s2 ⟨zs, H2, I2, rz, l1, l2, q2⟩ => ⟨I2.kIn, ?_⟩
  rw [hks]
  exact run_fnN (us := []) (vs := []) F (hr.mono hk) b pass0 I2 .nil rz rfl l2 q2
/-! ### x(*y), x a local name that holds a def -/
def tCallHS (P : Program) (w : World) (K : PySem.W.Frag) (mg : Str → Option Value) (base : Heap) (k i : Nat) (te : TE) : TE := fun σ H Q => ∃ f sp, σ[i]? = some (some (.ref f)) ∧ Held P w K mg base k f sp ∧
  te σ H fun y H1 => ∃ a xs, y = V.ref a ∧ (SqT K H1 a xs ∨ SqL K H1 a xs) ∧ sp xs H1 Q (fun _ _ _ => False)
theorem pe_callHS {sp_ : Pos} (hr : Room k X.A) (hN : X.N[i]? = some x) (hv : Vis X.env.scope x) (he : PE X e te)
    (hdb : (x == ("__debug__" : Str)) = false := by decide) (hcd : (x == ("__classdict__" : Str)) = false := by decide)
    (hst : starEach [.Starred e sp_] X.env = [(true, eval e X.env)] := by rfl) :
    PE X (.Call (.Name x p) [.Starred e sp_] [] pos) (tCallHS X.prog X.w X.K X.mg X.base k i te) := by
  refine ⟨fun pins s σ H Q I h => ?_⟩
  obtain ⟨f, sp, hs, hH, ht⟩ := h
  obtain ⟨fd, ps, F, hk, hb⟩ := hH.ex
  refine wpAny_Call_Name_kw (thn ((pe_var (pos := p) hN hv hdb hcd).run pins s σ H (fun v H1 => v = .ref f ∧ H1 = H) I ⟨.ref f, hs, rfl, rfl⟩) fun u s1 ⟨v, H1, I1, r1, q1⟩ => ?_)
  obtain ⟨rfl, rfl⟩ := q1
  cases r1
  refine PySem.W.callWith_S (h₀ := X.base) I.ok.mod.kin hk (thn (he.run pins s1 σ _ _ I1 ht) fun v s2 ⟨y, H2, I2, ry, a, xs, ey, hxs, q⟩ => ?_) hst
  subst ey
  obtain rfl : v = Value.ref a := ry
  refine StX.star_any I2 hxs fun us s3 I3 rv => ⟨I3.kIn, ?_⟩
  exact run_fn (E := fun _ _ _ => False) F hr hb .nil (fun _ _ _ _ _ _ _ z => z.elim) I3 rv (by rw [List.append_nil]; exact q)
end
section
variable {K : PySem.W.Frag} {x qual : Str} {params : Arguments} {body : List Stmt} {scope : Scope} {kws : List (Str × V)} {f : Addr} {fd : FuncData} {ps : List Str}
/-- keywords, and keyword-only defaults for those that lack; no other defaults -/
theorem kbinds0 (F : FunD K x qual params body scope [] kws f fd) (n : Nat) (ks : List Str) (g : {α : Type} → List α → List α → List α → List α) (hk : kws ≠ [])
    (hrel : ∀ {vs mz zs : List V} {us mv ws : List Value}, Vals vs us → Vals mz mv → Vals zs ws → Vals (g vs mz zs) (g us mv ws))
    (h : ∀ (D : Addr) (doc pm : Value) (an : Option Addr) (cdv ct : Value) (us mv ws : List Value), us.length = n → mv.length = kws.length → ws.length = ks.length →
      KwChain D ((kws.map (·.1)).zip mv) (bindArgs (PySem.W.fnOf x qual params body scope .none (.ref D) doc pm an cdv ct) ⟨us, ks.zip ws⟩) (ps.zip (g us mv ws))) :
    ∃ mv : List Value, KBn K fd ps n ks (fun us ws => g us mv ws) (fun vs zs => g vs (kws.map (·.2)) zs) := by
  obtain ⟨oc, od, dV, kV, doc, pm, an, cdv, ct, osl, rfl, lk, hcd, hD, hK⟩ := F.ex
  rcases hD with ⟨_, rfl⟩ | ⟨e, _⟩
  · rcases hK with e | ⟨D, rfl, hq⟩
    · exact absurd e hk
    · obtain ⟨mv, hl, rk, hks⟩ := kwd_vals hq
      refine ⟨mv, ⟨fun s us ws X l1 l2 => ?_, fun r1 r2 => hrel r1 rk r2⟩⟩
      exact BindsTo.of_looks fun M => KwChain.looks X hks (h D doc pm an cdv ct us mv ws l1 hl l2)
  · exact absurd rfl e
/-- keywords alone, every parameter named or placed -/
theorem kbindsN (F : FunD K x qual params body scope [] kws f fd) (n : Nat) (ks : List Str) (g : {α : Type} → List α → List α → List α)
    (hrel : ∀ {vs zs : List V} {us ws : List Value}, Vals vs us → Vals zs ws → Vals (g vs zs) (g us ws))
    (h : ∀ (kV doc pm : Value) (an : Option Addr) (cdv ct : Value) (us ws : List Value), us.length = n → ws.length = ks.length →
      bindArgs (PySem.W.fnOf x qual params body scope .none kV doc pm an cdv ct) ⟨us, ks.zip ws⟩ = pure (ps.zip (g us ws))) :
    KBn K fd ps n ks (fun us ws => g us ws) (fun vs zs => g vs zs) := by
  obtain ⟨oc, od, dV, kV, doc, pm, an, cdv, ct, osl, rfl, lk, hcd, hD, hK⟩ := F.ex
  rcases hD with ⟨_, rfl⟩ | ⟨e, _⟩
  · exact ⟨fun s us ws X l1 l2 => .of_eq (h kV doc pm an cdv ct us ws l1 l2), fun r1 r2 => hrel r1 r2⟩
  · exact absurd rfl e
end
/-! ### d.update(e) -/
def rDUpd : V → List V → Hp → VK → Prop := fun x vs H Q => ∃ (a b : Addr) (kvs more : List (Key × V)), x = .ref a ∧ vs = [.ref b] ∧ a ≠ b ∧ H a = some (.dK kvs) ∧ H b = some (.dK more) ∧ kvs.length + more.length ≤ 1000 ∧ Q .non (upd H a (.dK (mergeK kvs more)))
theorem mtd_update {X : Cx} : MtR X "dict.update" rDUpd := by
  intro pins s σ H x vs v us Q I rx rv h
  obtain ⟨a, b, kvs, more, ex, ev, nab, ea, eb, hz, q⟩ := h
  subst ex
  subst ev
  obtain rfl : v = Value.ref a := rx
  obtain ⟨u, eu, ru⟩ := rv.one
  subst eu
  obtain rfl : u = Value.ref b := ru
  obtain ⟨z1, ls1, vs1, r1, d1⟩ := I.hok a _ ea
  obtain ⟨z2, ls2, vs2, r2, d2⟩ := I.hok b _ eb
  have l1 : kvs.length = vs1.length := Paired.length r1
  have l2 : more.length = vs2.length := Paired.length r2
  refine call_meetsIn PySem.F.slot_dict_update d1.typeIs PySem.F.entry_dict_update (PySem.F.args_dict_update_2 _ _) (meets_dict_update (mixKind X.prog X.w) a b nab ls2)
    ⟨vs1, vs2, d1, d2, (by rw [← l1, ← l2]; exact Nat.le_trans hz (by decide)), fun h' hm _ hs => ?_⟩
  refine ⟨.non, upd H a (.dK (mergeK kvs more)), ?_, rfl, q⟩
  have hlen : (mergeK kvs more).length ≤ sizeLine := by
    have := length_mergeK more kvs
    have h2 : (1000 : Nat) ≤ sizeLine := by decide
    omega
  obtain ⟨oo, es', ep', ho', _⟩ := id hm
  exact I.write (t' := s.toks) (e := a) (o := .dK (mergeK kvs more)) (by rw [ea]; trivial) (.inl rfl) (fun c u nc e => (hs.2 c nc).trans e) ⟨oo, ho'⟩ ⟨hlen, ls1, merged vs1 vs2, KV.merge r2 r1, hm⟩
/-! ### an exception that is held as a value: its class, its own dict -/
def exv (a C d : Addr) : HO := .ext fun g => ∃ ob fv, g.get? a = some ob ∧ ob.cls = .ref C ∧ ob.dict = some d ∧ ob.data = .fields fv
theorem exv_ok {P : Program} {w : World} {H : Hp} {g : Heap} {a C d : Addr} {ob : Obj} {fv : Array Value} (h1 : g.get? a = some ob) (h2 : ob.cls = .ref C) (h3 : ob.dict = some d) (h4 : ob.data = .fields fv) : ObjOk P w H g a (exv a C d) :=
  ⟨⟨ob, fv, h1, h2, h3, h4⟩, ⟨ob, h1⟩, fun g1 g2 ⟨o2, f2, e1, e2, e3, e4⟩ k => ⟨o2, f2, k _ e1, e2, e3, e4⟩⟩
theorem exv_at {P : Program} {w : World} {H : Hp} {g : Heap} {a C d : Addr} (ok : HOk P w H g) (e : H a = some (exv a C d)) : ∃ ob fv, g.get? a = some ob ∧ ob.cls = .ref C ∧ ob.dict = some d ∧ ob.data = .fields fv := by
  have z : ObjOk P w H g a (.ext fun g => ∃ ob fv, g.get? a = some ob ∧ ob.cls = .ref C ∧ ob.dict = some d ∧ ob.data = .fields fv) := ok a _ e
  exact z.1
section
variable {X : Cx} {pins : List (Addr × Obj)} {σ : L2.St} {H : Hp} {s : Shared}
/-- an object that was made here and is not yet tracked is tracked from now on -/
theorem inv_track {a : Addr} {u : HO} (I : Inv X pins σ H s) (na : H a = none) (nw : ∀ o, X.s_0.heap.get? a ≠ some o) (nL : a ≠ X.env.locals) (nC : ∀ x c, X.env.cells.lookup x = some c → c ≠ a) (nP : ∀ p ∈ X.pn ++ pins, p.1 ≠ a)
    (new : ObjOk X.prog X.w (upd H a u) s.heap a u) : Inv X pins σ (upd H a u) s where
  ok := I.ok
  os := I.os
  bare := I.bare
  base := {
    keep := I.base.keep
    slot := I.base.slot
    free := fun b o e n hx => by
      have nb : b ≠ a := fun z => nw o (z ▸ e)
      rw [upd_ne nb]
      exact I.base.free b o e n hx
    there := I.base.there
    tups := fun b xs e => by
      have e' := I.base.tups b xs e
      rw [upd_ne (ne_of_none e' na)]
      exact e'
    frzs := fun b o xs e => by
      have e' := I.base.frzs b o xs e
      rw [upd_ne (ne_of_none e' na)]
      exact e'
    tbls := fun b ps e => by
      obtain ⟨m, e'⟩ := I.base.tbls b ps e
      exact ⟨m, by rw [upd_ne (ne_of_none e' na)]; exact e'⟩ }
  loc := I.loc
  cell := I.cell
  free := by
    rw [upd_ne (Ne.symm nL)]
    exact I.free
  freeC := fun x c e => by
    rw [upd_ne (nC x c e)]
    exact I.freeC x c e
  pin := fun p hp => by
    obtain ⟨p1, p2, p3⟩ := I.pin p hp
    exact ⟨p1, by rw [upd_ne (nP p hp)]; exact p2, p3⟩
  hok := fun b o e => by
    by_cases hb : b = a
    · subst hb
      rw [upd_same] at e
      cases e
      exact new
    · rw [upd_ne hb] at e
      exact (I.hok b o e).stay (fun _ _ _ z => z) (fun c z => by rw [upd_ne (ne_of_none z na)]; exact z) (fun c xs z => by rw [upd_ne (ne_of_none z na)]; exact z)
  len := I.len
end
/-- what 'except x as n' wishes, where the exception is tracked behind the suite -/
def wKeep (K : PySem.W.Frag) (c : Value) (i : Nat) (ts : Addr → Value → Option Addr → TS) (Wout : WX) (D : Ends) : WX := fun cls d σ H =>
  ∃ (C dd : Addr) (b : Bool), cls = .ref C ∧ d = some dd ∧ PySem.W.exmOne K cls c = some b ∧
    (b = true → ∀ a, H a = none → ts a cls d { nx := fun σ2 H2 => D.nx (σ2.set i none) (upd H2 a (exv a C dd)), rt := D.rt, bk := fun _ _ => False, ct := fun _ _ => False } (σ.set i (some (.ref a))) H) ∧ (b = false → Wout cls d σ H)
section
variable {X : Cx} {x n : Str} {c : Value} {i : Nat} {body suite : List Stmt} {b0 : Stmt} {np pos pos' : Pos} {tb : WX → TS} {ts : Addr → Value → Option Addr → TS} {Wout : WX}
theorem ps_try_keep (hst : X.stack = X.env :: X.outer) (hfr0 : X.env.frame = some X.env.locals) (hex : X.ex = []) (nd : X.N.Nodup) (hi : X.N[i]? = some n) (hk : X.env.kindOf n = some .local) (hnm : Names X x c) (tk : Takes X Wout)
    (hbody : ∀ (W : WX) (pn : List (Addr × Obj)) (xe : Value → Shared → Prop), Takes (X.tr pn xe) W → PassesOwn (model X.prog X.w) X.A X.env xe → PSs (X.tr pn xe) body (tb W))
    (hsuite : ∀ (a : Addr) (oe : Obj) (cls : Value) (d : Option Addr) (pn : List (Addr × Obj)), Zc cls d oe → (∃ vs, oe.data = .fields vs) → PSs (X.suite a ((a, oe) :: pn)) (b0 :: suite) (ts a cls d)) :
    PS X (.Try body [.ExceptHandler (some (.Name x np)) (some n) (b0 :: suite) pos'] [] [] pos) (fun D σ H => tb (wKeep X.K c i ts Wout D) D σ H) := by
  refine ⟨fun pins s σ H D I rd => ?_⟩
  have okX := I.ok
  have hA : X.A.frames = some (X.env :: X.outer) := okX.frames.trans (congrArg some hst)
  refine wpAny_Try_except (wpAny_mono ((hbody (wKeep X.K c i ts Wout D) (X.pn ++ pins)
    (fun e s1 => wpAny (model X.prog X.w) X.A (noteFrame e X.env) (fun _ s2 => wpAny (model X.prog X.w) X.A (setFlight e none) (fun _ s3 => wpAny (model X.prog X.w) X.A (handleBy e X.env [.ExceptHandler (some (.Name x np)) (some n) (b0 :: suite) pos']) (SP X pins D) X.xe s3) X.xe s2) X.xe s1)
    (fun u t xx => ?_) PassesOwn.looking).run [] s σ H D (I.toTry _) rd) (fun fl s1 hfl => ?_) (fun _ _ z => z))
  · obtain ⟨a, G, sI, pins2, σ2, H2, cls, d, eu, J0, inG, upS, sky0, na, eos, bare, C, dd, b, ecls, ed, hexm, hyes, hno⟩ := xx
    subst eu
    subst ecls
    subst ed
    have J : Inv X pins σ2 H2 sI := J0.ofTry okX
    rw [hst] at sky0
    refine Sky.land Zc.steady hA hfr0 sky0 fun g3 fly3 up3 => ?_
    have J3 : Inv X pins σ2 H2 { t with heap := g3 } := J.landed inG fly3.1 (upS.trans up3) eos bare
    obtain ⟨o3, f3, at3, z3, dat3⟩ := fly3.there
    have offF : a ∉ frs (X.env :: X.outer) := fun hm => by
      obtain ⟨_, ob, eo, nof⟩ := fly3.2.2.1.mem hm
      have eq : o3 = ob := Option.some.inj (at3.symm.trans eo)
      exact nof _ (eq ▸ dat3)
    have nLoc : a ≠ X.env.locals := fun z => offF (List.mem_filterMap.mpr ⟨X.env, List.mem_cons_self, by rw [hfr0, z]⟩)
    have nFs : a ∉ X.fs := fun hm => by
      obtain ⟨ev, hev, qe⟩ := List.mem_filterMap.mp hm
      exact offF (List.mem_filterMap.mpr ⟨ev, List.mem_cons_of_mem _ hev, qe⟩)
    have outG : G.get? a = none := fly3.2.1
    have outI : ∀ o, sI.heap.get? a ≠ some o := fun o z => by
      have z2 := inG a o z (by rw [hst]; exact offF)
      rw [outG] at z2
      cases z2
    have out0 : ∀ o, X.s_0.heap.get? a ≠ some o := fun o z => by
      obtain ⟨o', z2⟩ := J.base.there a o z (by rw [hex]; exact List.not_mem_nil)
      exact outI o' z2
    have noPin : ∀ p ∈ X.pn ++ pins, p.1 ≠ a := fun p hp z => outI p.2 (z ▸ (J.pin p hp).1)
    refine wpAny_handleBy_cons (codeAny_handlers_test ?_) (fun q => by cases q)
    have isT : PySem.W.Looks (model X.prog X.w) g3 (typeOf (.ref a)) (.ref C) := fun _ _ _ _ kp q => wpAny_typeOf_ref (kp _ _ at3) (by rw [z3.1]; exact q)
    have asks := PySem.W.exm_one (M := model X.prog X.w) J3.kIn isT hexm
    have S3 := J3.suite at3 dat3 na nLoc nFs
    have named : ∀ {Q E : Value → Shared → Prop}, Q c { t with heap := g3 } → wpAny (model X.prog X.w) (X.A.mark (some (.ref a))) (eval (.Name x np) X.env) Q E { t with heap := g3 } := fun {Q E} q => by
      obtain ⟨gl, db, way⟩ := hnm
      rcases way with m1 | ⟨m1, m2, m3⟩
      · exact ld_glob (X := X.suite a ((a, o3) :: (X.pn ++ pins))) S3 gl m1 q db
      · exact ld_blt (X := X.suite a ((a, o3) :: (X.pn ++ pins))) S3 gl m1 m2 q m3 db
    refine named (asks.here ?_)
    cases b with
    | true =>
      refine codeAny_handlers_suite_as (HandSPX.lands_againZ fly3 fun g4 fly4 up4 => ?_)
      have J4 : Inv X pins σ2 H2 { t with heap := g4 } := J.landed inG fly4.1 ((upS.trans up3).trans up4) eos bare
      obtain ⟨o4, f4, at4, z4, dat4⟩ := fly4.there
      have S4 := J4.suite at4 dat4 na nLoc nFs
      refine store_ok (X := X.suite a ((a, o4) :: (X.pn ++ pins))) (v := .ref a) S4 nd hi (.inl hk) rfl (fun s5 S5 => ?_) (.inr hk)
      refine wpAny_mono ((hsuite a o4 (.ref C) (some dd) (X.pn ++ pins) z4 ⟨_, dat4⟩).run [] s5 _ H2 _ S5 (hyes rfl a na)) (fun fl s6 hfl => ?_) (fun _ _ z => z.elim)
      cases fl with
      | next =>
        obtain ⟨σ6, H6, S6, q6⟩ := hfl
        refine gone_ok (X := X.suite a ((a, o4) :: (X.pn ++ pins))) S6 nd hi hk fun s7 S7 => ?_
        obtain ⟨at7, na7, _, _, nc7⟩ := S7.pin (a, o4) (by rw [List.append_nil]; exact List.mem_cons_self)
        have J7 : Inv X pins (σ6.set i none) H6 s7 := S7.unsuite okX
        refine ⟨_, _, inv_track (u := exv a C dd) J7 na7 out0 nLoc (fun y cc e z => ?_) noPin (exv_ok at7 z4.1 z4.2 dat4), q6⟩
        obtain ⟨vv, oc, ec, dc⟩ := J7.cell y cc e
        rw [z, at7] at ec
        cases ec
        rw [dat4] at dc
        cases dc
      | ret u =>
        obtain ⟨v6, σ6, H6, S6, r6, q6⟩ := hfl
        exact gone_ok (S6.unsuite okX) nd hi hk fun s7 J7 => ⟨_, _, _, J7, r6, q6⟩
      | brk =>
        obtain ⟨_, _, _, q6⟩ := hfl
        exact q6.elim
      | cont =>
        obtain ⟨_, _, _, q6⟩ := hfl
        exact q6.elim
    | false =>
      refine wpAny_handleBy_nil ?_
      obtain ⟨_, _, _, ob, fv, T, oT, _, eo, _, dat, h1, _⟩ := id fly3
      unfold PySem.passOn
      refine wpAny_bind (wpAny_field eo dat h1 ?_)
      rw [if_neg (show ¬ ((Value.ref T == Value.none) = true) by simp)]
      have leave : wpAny (model X.prog X.w) X.A (setFlight (.ref a) X.env.frame) (fun _ s4 => wpAny (model X.prog X.w) X.A (throw (.ref a) : Sem Flow) (SP X pins D) X.xe s4) X.xe { t with heap := g3 } := by
        rw [hfr0]
        refine HandSPX.setFlight_upZ fly3 fun g4 held4 up4 => wpAny_throw (tk _ _ ⟨a, G, sI, pins, σ2, H2, .ref C, some dd, rfl, J, inG, (upS.trans up3).trans up4, .inr (.inr ?_), na, eos, bare, hno rfl⟩)
        rw [hst]
        exact held4
      first
        | exact wpAny_bind (wpAny_pure (wpAny_bind leave))
        | exact wpAny_bind leave
  · cases fl with
    | next =>
      obtain ⟨σ1, H1, J1, q1⟩ := hfl
      exact wpAny_execs_nil ⟨_, _, J1.ofTry okX, q1⟩
    | brk =>
      obtain ⟨σ1, H1, J1, q1⟩ := hfl
      exact ⟨_, _, J1.ofTry okX, q1⟩
    | cont =>
      obtain ⟨σ1, H1, J1, q1⟩ := hfl
      exact ⟨_, _, J1.ofTry okX, q1⟩
    | ret u =>
      obtain ⟨v1, σ1, H1, J1, r1, q1⟩ := hfl
      exact ⟨_, _, _, J1.ofTry okX, r1, q1⟩
end
/-! ### what such a value bears, and of which class it is -/
structure XvC (K : PySem.W.Frag) (C : Addr) : Prop where
  ga : PySem.W.findIn K (.ref C) "__getattribute__" = some (some (.builtin "BaseException.__getattribute__"))
  gg : PySem.W.findIn K (.ref C) "__getattr__" = some none
  sb : PySem.W.subIn K (.ref C) (.type "BaseException") = some true
  hd : PySem.W.hasDictIn K C = true
  kl : PySem.W.findIn K (.ref C) "__class__" = some (some (.builtin "object.__class__"))
  kg : PySem.W.specialIn K (.builtin "object.__class__") "__get__" = some (some (.builtin "getset_descriptor.__get__"))
  kt : PySem.W.takesIn K (.builtin "object.__class__") = some true
  ob : PySem.W.mroIn K C (.type "object") = some true
def tXv (K : PySem.W.Frag) (f : Str) (te : TE) : TE := fun σ H Q => te σ H fun y H1 => ∃ (a C d : Addr) (fs : List (Str × V)) (v : V), y = .ref a ∧ H1 a = some (exv a C d) ∧ XvC K C ∧ PySem.W.findIn K (.ref C) f = some none ∧ H1 d = some (.xd fs) ∧ fs.lookup f = some v ∧ Q v H1
theorem inst_of {X : Cx} {pins : List (Addr × Obj)} {σ : L2.St} {H : Hp} {s : Shared} {a C d : Addr} {fs : List (Str × V)} (I : Inv X pins σ H s) (ea : H a = some (exv a C d)) (ed : H d = some (.xd fs)) :
    ∃ (ob od : Obj) (mA : Str → Option Value), PySem.W.InstAt s.heap a ob C (some od) ∧ (∀ f, RelO (fs.lookup f) (mA f)) ∧ ∀ nm, PySem.W.lookIn nm od = some (mA nm) := by
  obtain ⟨ob, fv, h1, h2, h3, h4⟩ := exv_at I.hok ea
  obtain ⟨mA, hns, hr⟩ : ObjOk X.prog X.w H s.heap d (.xd fs) := I.hok d _ ed
  obtain ⟨od, ho, hl⟩ := lookIn_ns hns
  refine ⟨ob, od, mA, ⟨h1, h2, ?_, ?_⟩, hr, hl⟩
  · unfold PySem.W.notCls
    rw [h4]
  · rw [h3]
    exact ho
theorem pe_xv {X : Cx} {e : Expr} {te : TE} {pos : Pos} {f : Str} (he : PE X e te) (hb : attributeBase e f X.env (eval e X.env) = eval e X.env := by rfl) : PE X (.Attribute e f pos) (tXv X.K f te) := by
  refine ⟨fun pins s σ H Q I rd => attr_of hb (thn (he.run pins s σ H _ I rd) fun u s1 hh => ?_)⟩
  obtain ⟨y, H1, I1, ry, a, C, d, fs, v, ey, ea, T, hno, ed, hl, q⟩ := hh
  subst ey
  obtain rfl : u = Value.ref a := ry
  obtain ⟨ob, od, mA, J, hr, hlk⟩ := inst_of I1 ea ed
  obtain ⟨u2, e2, r2⟩ := RelO.some_of (v := v) (o := mA f) (by rw [← hl]; exact hr f)
  exact HandSPX.exc_get I1.kIn J T.ga T.gg T.sb (PySem.W.findObj_own T.hd hno rfl (by rw [hlk, e2])) (handed_of r2) ⟨v, H1, I1.tok _, r2, q⟩
/-- isinstance(e, c) -/
def rXvI (K : PySem.W.Frag) : List V → Hp → VK → Prop := fun xs H Q => ∃ (a C d : Addr) (fs : List (Str × V)) (c : V) (cu : Value) (b : Bool), xs = [.ref a, c] ∧ H a = some (exv a C d) ∧ XvC K C ∧ H d = some (.xd fs) ∧ ClsV c cu ∧ PySem.W.kitOne K (.ref C) cu = some b ∧ Q (.bl b) H
theorem call_isXv {X : Cx} : CallR X (.builtin "isinstance") (rXvI X.K) := by
  intro pins s σ H xs us Q I r h
  obtain ⟨a, C, d, fs, c, cu, b, rfl, ea, T, ed, hc, hk, q⟩ := h
  cases r with
  | cons r1 rr =>
    cases rr with
    | cons r2 r3 =>
      cases r3
      cases r1
      have ec := hc.eq r2
      subst ec
      obtain ⟨ob, od, mA, J, hr, hlk⟩ := inst_of I ea ed
      have hcl : (PySem.W.clsIn X.K C).isSome = true := by
        obtain ⟨cd, e1, _⟩ := PySem.W.any_some T.hd
        rw [e1]
        rfl
      exact PySem.W.kia_one (PySem.W.kitx_exc hcl T.ga T.gg T.sb T.kl T.kg T.kt T.ob) I.kIn J hk (fun z => nomatch z) fun tk => ⟨.bl b, H, I.kept (t' := tk) fun _ _ z => z, rfl, q⟩
/-- isinstance(e, (c1, c2, ..)) -/
def rXvT (K : PySem.W.Frag) : List V → Hp → VK → Prop := fun xs H Q => ∃ (a C d tp : Addr) (fs : List (Str × V)) (cs : List V) (cu : List Value) (b : Bool), xs = [.ref a, .ref tp] ∧ H a = some (exv a C d) ∧ XvC K C ∧ H d = some (.xd fs) ∧ H tp = some (.tup cs) ∧ Paired ClsV cs cu ∧
  PySem.W.kitAny K (.ref C) cu = some b ∧ Q (.bl b) H
theorem call_isXvT {X : Cx} : CallR X (.builtin "isinstance") (rXvT X.K) := by
  intro pins s σ H xs us Q I r h
  obtain ⟨a, C, d, tp, fs, cs, cu, b, rfl, ea, T, ed, et, hc, hk, q⟩ := h
  cases r with
  | cons r1 rr =>
    cases rr with
    | cons r2 r3 =>
      cases r3
      cases r1
      cases r2
      obtain ⟨ob, od, mA, J, hr, hlk⟩ := inst_of I ea ed
      have hcl : (PySem.W.clsIn X.K C).isSome = true := by
        obtain ⟨cd, e1, _⟩ := PySem.W.any_some T.hd
        rw [e1]
        rfl
      obtain ⟨hz, its, rv, ⟨c5, d5, t5, s5⟩, p1, p2, n5, p3⟩ : ObjOk X.prog X.w H s.heap tp (.tup cs) := I.hok tp _ et
      have ei := ClsV.all hc rv
      subst ei
      dsimp only at p2 p3
      subst p2 p3
      exact PySem.W.kia_tup (PySem.W.kitx_exc hcl T.ga T.gg T.sb T.kl T.kg T.kt T.ob) I.kIn J p1 hk (fun z => nomatch z) fun tk => ⟨.bl b, H, I.kept (t' := tk) fun _ _ z => z, rfl, q⟩
/-! ### calls with keywords of a def that may let an error out -/
structure KCalX (P : Program) (w : World) (K : PySem.W.Frag) (mg : Str → Option Value) (base : Heap) (k : Nat) (x : Str) (sp : Sp) (n : Nat) (ks : List Str) (gV : List V → List V → List V) : Prop where
  ex : ∃ (f : Addr) (fd : FuncData) (ps : List Str) (g : List Value → List Value → List Value), FnOk P w K mg base (L2.CX P w) k f fd ps sp ∧ mg x = some (.ref f) ∧ PySem.W.keepIn K (.ref f) = true ∧ KBn K fd ps n ks g gV
structure CalX (P : Program) (w : World) (K : PySem.W.Frag) (mg : Str → Option Value) (base : Heap) (k : Nat) (x : Str) (sp : Sp) (dvs : List V) : Prop where
  ex : ∃ (f : Addr) (fd : FuncData) (ps : List Str) (ds : List Value), FnOk P w K mg base (L2.CX P w) k f fd ps sp ∧ mg x = some (.ref f) ∧ PySem.W.keepIn K (.ref f) = true ∧ Binds K fd ps ds ∧ Vals dvs ds
theorem passX {X : Cx} : Passes (L2.CX X.prog X.w) X (fun _ _ _ => False) := fun _ _ _ _ _ _ _ h => by
  obtain ⟨_, _, _, _, _, _, _, _, _, _, _, _, z⟩ := h
  exact z.elim
section
variable {X : Cx} {k j n : Nat} {x : Str} {sp : Sp} {p pos : Pos} {e : Expr} {es : List Expr} {kws : List Keyword} {t tk : TA} {ks : List Str} {gV : List V → List V → List V} {dvs : List V}
theorem pe_cX (c : CalX X.prog X.w X.K X.mg X.base k x sp dvs) (hr : Room j X.A) (hk : k ≤ j) (hg : Gl X x) (ha : PA X (e :: es) t)
    (hdb : (x == ("__debug__" : Str)) = false := by decide) (he : starEach (e :: es) X.env = (false, eval e X.env) :: starEach es X.env := by rfl) (hpl : (backTo pos (starEach es X.env)).any (·.1) = false := by rfl) :
    PE X (.Call (.Name x p) (e :: es) [] pos) (tCall sp dvs (fun _ _ _ => False) t) := by
  obtain ⟨f, fd, ps, ds, F, hm, kp, b, d⟩ := c.ex
  exact pe_call F (hr.mono hk) hg hm kp b d passX ha hdb he hpl
theorem pe_kwX (c : KCalX X.prog X.w X.K X.mg X.base k x sp n ks gV) (hr : Room j X.A) (hk : k ≤ j) (hg : Gl X x) (ha : PA X (e :: es) t) (hkw : PK X kws tk)
    (hall : (backToKw pos (keywordEach kws X.env)).all (·.1.isSome) = true := by rfl) (hks : (backToKw pos (keywordEach kws X.env)).filterMap (·.1) = ks := by rfl)
    (hdb : (x == ("__debug__" : Str)) = false := by decide) (he : starEach (e :: es) X.env = (false, eval e X.env) :: starEach es X.env := by rfl)
    (hpl : ((backTo pos (starEach (e :: es) X.env)).any (·.1) || (backToKw pos (keywordEach kws X.env)).any (·.1.isNone)) = false := by rfl) :
    PE X (.Call (.Name x p) (e :: es) kws pos) (tCallN n ks.length sp gV (fun _ _ _ => False) t tk) := by
  obtain ⟨f, fd, ps, g, F, hm, kp, b⟩ := c.ex
  exact pe_callN F (hr.mono hk) hg hm kp b passX ha hkw hall hks hdb he hpl
theorem pe_kw0X (c : KCalX X.prog X.w X.K X.mg X.base k x sp 0 ks gV) (hr : Room j X.A) (hk : k ≤ j) (hg : Gl X x) (hkw : PK X kws tk)
    (hall : (backToKw pos (keywordEach kws X.env)).all (·.1.isSome) = true := by rfl) (hks : (backToKw pos (keywordEach kws X.env)).filterMap (·.1) = ks := by rfl)
    (hdb : (x == ("__debug__" : Str)) = false := by decide)
    (hpl : ((backTo pos (starEach [] X.env)).any (·.1) || (backToKw pos (keywordEach kws X.env)).any (·.1.isNone)) = false := by rfl) :
    PE X (.Call (.Name x p) [] kws pos) (tCallN 0 ks.length sp gV (fun _ _ _ => False) tNil tk) := by
  obtain ⟨f, fd, ps, g, F, hm, kp, b⟩ := c.ex
  refine ⟨fun pins s σ H Q I h => ?_⟩
  refine wpAny_Call_Name_kw (ld_glob I hg hm ?_ hdb)
  refine PySem.W.callWith_KW0 (h₀ := X.base) I.ok.mod.kin kp hall ?_ hpl
  refine thn (hkw.run pos pins s σ H _ I h) fun ws s2 ⟨zs, H2, I2, rz, l1, l2, q2⟩ => ⟨I2.kIn, ?_⟩
  rw [hks]
  exact run_fnN (us := []) (vs := []) F (hr.mono hk) b passX I2 .nil rz rfl l2 q2
/-- what it lets out is wished for at the caller's slots -/
def tCallNT (n m : Nat) (sp : Sp) (gV : List V → List V → List V) (W : WX) (t tk : TA) : TE := fun σ H Q => t σ H fun vs H1 => tk σ H1 fun zs H2 => vs.length = n ∧ zs.length = m ∧ sp (gV vs zs) H2 Q (WE W σ)
theorem pe_kwT {W : WX} (c : KCalX X.prog X.w X.K X.mg X.base k x sp n ks gV) (hr : Room j X.A) (hk : k ≤ j) (hg : Gl X x) (tkw : Takes X W) (ha : PA X (e :: es) t) (hkw : PK X kws tk)
    (hall : (backToKw pos (keywordEach kws X.env)).all (·.1.isSome) = true := by rfl) (hks : (backToKw pos (keywordEach kws X.env)).filterMap (·.1) = ks := by rfl)
    (hdb : (x == ("__debug__" : Str)) = false := by decide) (he : starEach (e :: es) X.env = (false, eval e X.env) :: starEach es X.env := by rfl)
    (hpl : ((backTo pos (starEach (e :: es) X.env)).any (·.1) || (backToKw pos (keywordEach kws X.env)).any (·.1.isNone)) = false := by rfl) :
    PE X (.Call (.Name x p) (e :: es) kws pos) (tCallNT n ks.length sp gV W t tk) := by
  obtain ⟨f, fd, ps, g, F, hm, kp, b⟩ := c.ex
  refine ⟨fun pins s σ H Q I h => ?_⟩
  refine wpAny_Call_Name_kw (ld_glob I hg hm ?_ hdb)
  refine PySem.W.callWith_KW (h₀ := X.base) I.ok.mod.kin kp hall (thn (ha.run pos pins s σ H _ I h) fun us s1 ⟨vs, H1, I1, r, q⟩ => ?_) hpl he
  refine thn (hkw.run pos pins s1 σ H1 _ I1 q) fun ws s2 ⟨zs, H2, I2, rz, l1, l2, q2⟩ => ⟨I2.kIn, ?_⟩
  rw [hks]
  have r2 := b.rel r rz
  refine wpAny_call (codeAny_mono (F.run X.A X.stack s2 H2 ⟨us, ks.zip ws⟩ (g us ws) (gV vs zs) Q (WE W σ) (hr.mono hk) I2.env0 (b.to s2 us ws I2.kIn (r.length.symm.trans l1) (rz.length.symm.trans l2)) r2 q2) fun res s' hq => ?_)
  cases res with
  | error er => exact passAt tkw σ pins H2 s2 er s' I2 hq
  | ok fl =>
    cases fl with
    | ret u => exact I2.after hq
    | next => exact hq.elim
    | brk => exact hq.elim
    | cont => exact hq.elim
end
end Thr
namespace PySem
namespace Oxb
open PySem.W PySem.Calls PyProof.Rows PySem.HandSPX
section
open Builtin Builtin.ObjectAttr
variable {prog : Program} {w : World} {A : Around} {R : Result → Shared → Prop} {h0 : Heap} {gs : Array GenState} {dr : Drawn} {tn : Nat} {os : OsState}
/-- the mro of such a class lets a field be stored -/
structure MroOk (m : List Value) : Prop where
  pass : ∀ self, refuseLoop self "__setattr__" m = pure ()
  obj : m.contains (.type "object") = true
  full : m.isEmpty = false
theorem sub_obj {K : W.Frag} {e C : Addr} {ob : Obj} {od : Option Obj} {cd : ClassData} (X : K.In h0) (I : W.InstAt h0 e ob C od) (hcd : W.clsIn K C = some cd) (hm : MroOk cd.mro) : W.Looks (model prog w) h0 (isInstance (.ref e) (.type "object")) true := by
  refine I.type.andThen (W.looks_mroIn X ?_)
  unfold W.mroIn
  rw [hcd, Option.bind_some, if_neg (by rw [hm.full]; decide), hm.obj]
/-- the first field: the dict is laid -/
theorem store_first {K : W.Frag} {nm : Str} {tk : Tok} {v : Value} {e C : Addr} {fv : Array Value} {cd : ClassData} (X : K.In h0) (he : h0.get? e = some { cls := .ref C, data := .fields fv }) (hcd : W.clsIn K C = some cd) (hm : MroOk cd.mro) (hh : cd.hasDict = true) (ha : W.findIn K (.ref C) nm = some none)
    (hq : ∀ h1 t1 dx, (∀ b o, b ≠ e → h0.get? b = some o → h1.get? b = some o) → h0.objs.size ≤ dx → dx ≠ e → h1.get? e = some { cls := .ref C, dict := some dx, data := .fields fv } → h1.Ns1 dx (fun y => if y = nm then some v else none) → R (.ok (.ret .none)) ⟨h1, gs, dr, t1, os⟩) :
    codeAny (model prog w) A (.call (.builtin "object.__setattr__") ⟨[.ref e, .str nm tk, v], []⟩) R ⟨h0, gs, dr, tn, os⟩ := by
  have J : W.InstAt h0 e { cls := .ref C, data := .fields fv } C none := ⟨he, rfl, rfl, trivial⟩
  have hes : e ≠ h0.objs.size := Nat.ne_of_lt (Heap.lt_size he)
  have L1 : W.Looks (model prog w) h0 (mroOf (.ref C)) cd.mro := (W.looks_clsIn X hcd).andThen .now
  have L2 : W.Looks (model prog w) h0 (storeTaker? none) none := .now
  have L4 : W.Looks (model prog w) h0 (classData C) cd := W.looks_clsIn X hcd
  refine codeAny_call_builtin F.store_object.slot.plain F.store_object.entry (@W.check_slot (model prog w) _ _ ⟨h0, gs, dr, tn, os⟩ "object.__setattr__" "object" "__setattr__" (.ref e) [.str nm tk, v] [] _ F.store_object.kind F.store_object.split (sub_obj X J hcd hm) (F.store_object.args (.ref e) (.str nm tk) v) ?_)
  rw [W.osa_eq, refuse_eq]
  refine wpAny_bind (wpAny_bind (J.type.at (wpAny_bind (L1.at ?_))))
  rw [hm.pass]
  refine wpAny_pure (wpAny_bind (J.type.at (wpAny_bind ((W.looks_findIn X ha).at (wpAny_bind (L2.at ?_))))))
  show wpAny _ _ (storeInOwnDict (.ref e) (.ref C) (.str nm tk) nm v false) _ _ _
  obtain ⟨c1, c2, c3, c4, c5, c6, c7, c8, c9, c10, c11⟩ := cd
  dsimp only at hh
  subst hh
  unfold storeInOwnDict ownDictForStores
  repeat (first | with_reducible refine store_in_new ?_ ?_ | with_reducible refine wpAny_loadPart_at he ?_ | with_reducible refine L4.at ?_ | wp_step)
  · exact ⟨_, #[], _, (Heap.get?_update_ne _ _ _ _ hes.symm).trans (Heap.get?_push_at rfl rfl), rfl, fun x hx => absurd hx (by simp), fun _ => rfl⟩
  · intro h1 t1 hn hs
    have he1 : (h0.push { cls := .type "dict", data := .dict #[] }).get? e = some { cls := .ref C, data := .fields fv } := Heap.get?_push_of_some _ he
    refine hq h1 t1 h0.objs.size (fun b o hb ho => ?_) (Nat.le_refl _) hes.symm ((hs.2 e hes).trans (Heap.get?_update_self _ he1 rfl)) hn
    exact (hs.2 b (Nat.ne_of_lt (Heap.lt_size ho))).trans ((Heap.get?_update_ne _ _ _ _ hb).trans (Heap.get?_push_of_some _ ho))
/-- a further field -/
theorem store_more {K : W.Frag} {nm : Str} {tk : Tok} {v : Value} {e C dx : Addr} {fv : Array Value} {cd : ClassData} {m0 : Str → Option Value} {nl : List Str} (X : K.In h0) (he : h0.get? e = some { cls := .ref C, dict := some dx, data := .fields fv }) (hns : h0.Ns1 dx m0) (hw : Within m0 nl) (hz : nl.length ≤ 1000)
    (hcd : W.clsIn K C = some cd) (hm : MroOk cd.mro) (hh : cd.hasDict = true) (ha : W.findIn K (.ref C) nm = some none)
    (hq : ∀ h1 t1, (∀ b o, b ≠ dx → h0.get? b = some o → h1.get? b = some o) → h1.Ns1 dx (fun y => if y = nm then some v else m0 y) → R (.ok (.ret .none)) ⟨h1, gs, dr, t1, os⟩) :
    codeAny (model prog w) A (.call (.builtin "object.__setattr__") ⟨[.ref e, .str nm tk, v], []⟩) R ⟨h0, gs, dr, tn, os⟩ := by
  obtain ⟨oD, esD, epD, hoD, _, _⟩ := hns.count hw
  have J : W.InstAt h0 e { cls := .ref C, dict := some dx, data := .fields fv } C (some oD) := ⟨he, rfl, rfl, hoD⟩
  have L1 : W.Looks (model prog w) h0 (mroOf (.ref C)) cd.mro := (W.looks_clsIn X hcd).andThen .now
  have L2 : W.Looks (model prog w) h0 (storeTaker? none) none := .now
  have L4 : W.Looks (model prog w) h0 (classData C) cd := W.looks_clsIn X hcd
  refine codeAny_call_builtin F.store_object.slot.plain F.store_object.entry (@W.check_slot (model prog w) _ _ ⟨h0, gs, dr, tn, os⟩ "object.__setattr__" "object" "__setattr__" (.ref e) [.str nm tk, v] [] _ F.store_object.kind F.store_object.split (sub_obj X J hcd hm) (F.store_object.args (.ref e) (.str nm tk) v) ?_)
  rw [W.osa_eq, refuse_eq]
  refine wpAny_bind (wpAny_bind (J.type.at (wpAny_bind (L1.at ?_))))
  rw [hm.pass]
  refine wpAny_pure (wpAny_bind (J.type.at (wpAny_bind ((W.looks_findIn X ha).at (wpAny_bind (L2.at ?_))))))
  show wpAny _ _ (storeInOwnDict (.ref e) (.ref C) (.str nm tk) nm v false) _ _ _
  obtain ⟨c1, c2, c3, c4, c5, c6, c7, c8, c9, c10, c11⟩ := cd
  dsimp only at hh
  subst hh
  unfold storeInOwnDict ownDictForStores
  repeat (first | with_reducible refine PySem.OEX.store_in_old hns hw hz ?_ | with_reducible refine wpAny_loadPart_at he ?_ | with_reducible refine L4.at ?_ | wp_step)
  exact fun h1 t1 hn hs => hq h1 t1 (fun b o hb ho => (hs.2 b hb).trans ho) hn
end
/-! ### making such an error: the built-in __new__ that it inherits, then its own __init__ -/
structure NewOk (newId : String) (bm : List Value) : Prop where
  ex : ∃ (Bn initn : String) (bn : List Value), ExcBaseFacts Bn newId initn bn ∧ bm.contains (.type Bn) = true ∧ bm.contains (.type "AttributeError") = false ∧ bm.contains (.type "NameError") = false
structure InitOk (B : String) (bm : List Value) : Prop where
  plain : plainId (B ++ ".__init__") = true
  entry : entryFor table (B ++ ".__init__") = some Builtin.«BaseException.__init__»
  kind : builtinKind (B ++ ".__init__") = some .slot
  split : splitId (B ++ ".__init__") = some (B, "__init__")
  row : Manifest.signature? (B ++ ".__init__") = some ⟨.positional, "*", B, .self, [⟨"args", .varPos, false⟩]⟩
  star : (B != "*") = true
  has : bm.contains (.type B) = true
section
variable {prog : Program} {w : World} {A : Around} {E : Value → Shared → Prop} {R : Result → Shared → Prop} {hp : Heap} {ga : Array GenState} {dw : Drawn} {tn : Nat} {os : OsState}
variable {n1 n2 : Str} {C N : Addr} {b1 bm : List Value} {hd : Bool} {s1 : List Str} {s2 : List Value} {ab : Bool} {co : Option Bool} {d1 : Option Addr} {k0 k1 k2 k3 k5 : Option Value} {B newId : String}
theorem init_any (I : InitOk B bm) {e t0 : Addr} {more : List Value} (hC : hp.get? C = some (excClassObj n1 n2 C N b1 bm hd s1 s2 ab co d1 k0 k1 k2 k3 k5 newId)) (he : hp.get? e = some (excO C t0)) (hl : more.length ≤ sizeLine)
    (hq : ∀ h2 t2, (∀ b o, b ≠ e → hp.get? b = some o → h2.get? b = some o) → h2.get? e = some (excO C t2) → R (.ok (.ret .none)) ⟨h2, ga, dw, tn, os⟩) :
    codeAny (model prog w) A (.call (.builtin (B ++ ".__init__")) ⟨.ref e :: more, []⟩) R ⟨hp, ga, dw, tn, os⟩ := by
  have hin : (Value.ref C :: bm).contains (.type B) = true := by
    rw [List.contains_cons, I.has, Bool.or_true]
  have hst := I.star
  refine codeAny_call_builtin I.plain I.entry ?_
  have chk : ∀ {Q : Unit → Shared → Prop} {E : Value → Shared → Prop} {A : Around}, Q () ⟨hp, ga, dw, tn, os⟩ → wpAny (model prog w) A (checkBuiltinCall (B ++ ".__init__") ⟨.ref e :: more, []⟩) Q E ⟨hp, ga, dw, tn, os⟩ := fun {Q E A} q => by
    simp only [checkBuiltinCall, I.kind, I.split, I.row]
    repeat (first | (with_reducible refine wpAny_loadPart_at he ?_) | with_reducible refine wpAny_loadPart_at hC ?_ | (with_reducible refine wpAny_isSubtype_exc hC ?_; rw [hin]) | wp_step)
    refine wpAny_onRaise ?_
    rw [show ∀ (x y : String) (n : Nat), Bind.check ⟨.positional, "*", B, .self, [⟨"args", .varPos, false⟩]⟩ x y n (List.map (fun z => z.fst) ({ pos := Value.ref e :: more } : Args).kw) = pure () from
      fun _ _ _ => check_star_args _ _ _ _ _ _]
    exact wpAny_pure q
  refine chk ?_
  wp_walk
  refine hq _ hp.objs.size (fun b o hb ho => ?_) ?_
  · exact (Heap.get?_update_other _ _ (Ne.symm hb)).trans (Heap.get?_push_of_some _ ho)
  · exact Heap.get?_update_self _ (Heap.get?_push_of_some _ he) rfl
theorem new_any (Nw : NewOk newId bm) {more : List Value} (hC : hp.get? C = some (excClassObj n1 n2 C N b1 bm hd s1 s2 ab co d1 k0 k1 k2 k3 k5 newId)) (hl : more.length ≤ sizeLine)
    (hq : R (.ok (.ret (.ref (hp.objs.size + 1)))) ⟨(hp.push { cls := .type "tuple", data := .seq more.toArray }).push { cls := .ref C, data := .fields #[.ref hp.objs.size, .none, .none, .none, .bool false, .none] }, ga, dw, tn, os⟩) :
    codeAny (model prog w) A (.builtin newId ⟨.ref C :: more, []⟩) R ⟨hp, ga, dw, tn, os⟩ := by
  obtain ⟨Bn, initn, bn, FB, c1, c2, c3⟩ := Nw.ex
  have e0 := FB.ends
  have e1 : (Value.ref C :: bm).contains (.type Bn) = true := by
    rw [List.contains_cons, c1, Bool.or_true]
  have e2 : (Value.ref C :: bm).contains (.type "AttributeError") = false := by
    rw [List.contains_cons, c2]
    rfl
  have e3 : (Value.ref C :: bm).contains (.type "NameError") = false := by
    rw [List.contains_cons, c3]
    rfl
  refine codeAny_builtinAt FB.entry ?_
  unfold Builtin.«BaseException.__new__»
  refine wpAt_bind ?_
  show wpAt _ _ _ (stack >>= _) _ _ _
  refine wpAt_bind (wpAt_stack fun p below => wpAt_of_wpAny ?_)
  wp_walk
  refine wpAt_of_wpAny ?_
  rw [FB.owner]
  repeat (first | with_reducible refine wpAny_madeHere_exc FB.canon hC ?_ | with_reducible refine wpAny_loadPart_at hC ?_ | (with_reducible refine wpAny_isSubtype_exc hC ?_; first | rw [e1] | rw [e2] | rw [e3]) | wp_step)
  show R _ _
  rw [Heap.size_push]
  exact hq
theorem check_any (Nw : NewOk newId bm) {M : Model} {more : List Value} {Q : Unit → Shared → Prop} (hC : hp.get? C = some (excClassObj n1 n2 C N b1 bm hd s1 s2 ab co d1 k0 k1 k2 k3 k5 newId)) (q : Q () ⟨hp, ga, dw, tn, os⟩) :
    wpAny M A (checkBuiltinCall newId ⟨.ref C :: more, []⟩) Q E ⟨hp, ga, dw, tn, os⟩ := by
  obtain ⟨Bn, initn, bn, FB, c1, c2, c3⟩ := Nw.ex
  have e1 : (Value.ref C :: bm).contains (.type Bn) = true := by
    rw [List.contains_cons, c1, Bool.or_true]
  have e0 := FB.noStar
  simp only [checkBuiltinCall, FB.newKind, FB.newSplit, FB.newRow]
  repeat (first | refine wpAny_loadPart_at hC ?_ | (refine wpAny_isSubtype_exc hC ?_; rw [e1]) | refine wpAny_staticBase_exc hC ?_ | refine wpAny_madeBy_exc hC ?_ | simp only [bne_self_eq_false, Bool.false_eq_true, if_false] | wp_step)
  exact q
theorem typeCall_any (Nw : NewOk newId bm) {more : List Value} {fI : Addr} {Q : Fin → Shared → Prop} (hC : hp.get? C = some (excClassObj n1 n2 C N b1 bm hd s1 s2 ab co d1 k0 k1 k2 k3 k5 newId))
    (hi : W.Looks (model prog w) hp (typeLookup (.ref C) "__init__") (some (.ref fI))) (hb : ∀ self, W.Looks (model prog w) hp (bindSpecial (.ref fI) self) (.ref fI, [self])) (hl : more.length ≤ sizeLine)
    (hq : codeAny (model prog w) A (.call (.ref fI) ⟨.ref (hp.objs.size + 1) :: more, []⟩) (fun res z => match res with | .ok (.ret v) => v = .none ∧ Q (.done (.ret (.ref (hp.objs.size + 1)))) z | .ok _ => False | .error er => E er z) ⟨(hp.push (W.kdv_tup more)).push (excO C hp.objs.size), ga, dw, tn, os⟩) :
    wpAny (model prog w) A (Builtin.«type.__call__» ⟨.ref C :: more, []⟩) Q E ⟨hp, ga, dw, tn, os⟩ := by
  obtain ⟨Bn, initn, bn, FB, _, _, _⟩ := id Nw.ex
  repeat (first | with_reducible refine wpAny_loadPart_at hC ?_ | with_reducible refine wpAny_madeBy_exc hC ?_ | wp_step)
  refine codeAny_call_builtin_code (Code.quiet_builtin _ FB.quiet) (check_any Nw hC ?_)
  refine new_any Nw hC hl ?_
  show wpAny _ _ _ _ _ _
  have up : ∀ b o, hp.get? b = some o → ((hp.push (W.kdv_tup more)).push (excO C hp.objs.size)).get? b = some o := fun b o z => Heap.get?_push_of_some _ (Heap.get?_push_of_some _ z)
  have hC2 := up _ _ hC
  have hE : ((hp.push (W.kdv_tup more)).push (excO C hp.objs.size)).get? (hp.objs.size + 1) = some (excO C hp.objs.size) := by heap_get
  have self_in : (Value.ref C :: bm).contains (.ref C) = true := by simp
  have l1 := hi.keeps up
  have l2 := (hb (.ref (hp.objs.size + 1))).keeps up
  unfold isInstance
  repeat (first | with_reducible refine wpAny_loadPart_at hE ?_ | (with_reducible refine wpAny_isSubtype_exc hC2 ?_; rw [self_in]) | wp_step)
  show wpAny _ _ (typeLookup (.ref C) _) _ _ _
  refine l1.at (wpAny_holding (wpAny_bind (l2.at ?_)))
  refine wpAny_bind (wpAny_call (codeAny_mono hq fun res z q => ?_))
  rcases res with er | (v | _ | _ | _) <;> first | exact q | exact q.elim | skip
  obtain ⟨rfl, q⟩ := q
  first
    | exact wpAny_pure (wpAny_pure q)
    | (wp_walk; exact q)
theorem call_any (Nw : NewOk newId bm) {more : List Value} {fI : Addr} (hC : hp.get? C = some (excClassObj n1 n2 C N b1 bm hd s1 s2 ab co d1 k0 k1 k2 k3 k5 newId))
    (hi : W.Looks (model prog w) hp (typeLookup (.ref C) "__init__") (some (.ref fI))) (hb : ∀ self, W.Looks (model prog w) hp (bindSpecial (.ref fI) self) (.ref fI, [self])) (hl : more.length ≤ sizeLine)
    (hq : codeAny (model prog w) (A.under (.builtin "type.__call__" ⟨.ref C :: more, []⟩)) (.call (.ref fI) ⟨.ref (hp.objs.size + 1) :: more, []⟩) (W.InitBack (hp.objs.size + 1) R) ⟨(hp.push (W.kdv_tup more)).push (excO C hp.objs.size), ga, dw, tn, os⟩) :
    codeAny (model prog w) A (.call (.ref C) ⟨more, []⟩) R ⟨hp, ga, dw, tn, os⟩ := by
  have g1 := tc_lookup
  have g2 := tc_bind (.ref C)
  have hty : (⟨hp, ga, dw, tn, os⟩ : Shared).TypeIs (.ref C) "type" := ⟨_, hC, rfl⟩
  refine codeAny_of_tree ?_
  show wpAny _ _ (callAny (.ref C) _) _ _ _
  repeat (any_goals (first | assumption | with_reducible refine wpAny_loadPart_at hC ?_ | wp_step))
  refine ⟨rfl, codeAny_call_builtin_at (Code.quiet_builtin _ (by decide +kernel)) entry_typeCall (wpAny_check_type_call_sub hC (typeCall_any Nw hC hi hb hl (codeAny_mono hq fun res z q => ?_)))⟩
  rcases res with er | (v | _ | _ | _) <;> exact q
end
end Oxb
end PySem
namespace Thr
open PySem PySem.Spec PyProof.Rows L2
/-! ### an own error straight over a built-in one (B), whose __init__ is walked as a def -/
structure OxC (K : PySem.W.Frag) (C : Addr) (B : String) : Prop where
  cls : ∃ nm q N bs bm sn sub ab col dd k0 k1 k2 k3 k5 newId, K.lookup C = some (excClassObj nm q C N bs bm true sn sub ab col dd k0 k1 k2 k3 k5 newId) ∧ PySem.Oxb.NewOk newId bm ∧ PySem.Oxb.InitOk B bm ∧ PySem.Oxb.MroOk (.ref C :: bm)
  sa : PySem.W.findIn K (.ref C) "__setattr__" = some (some (.builtin "object.__setattr__"))
  exC : PySem.W.subIn K (.ref C) (.type "BaseException") = some true
  tyC : PySem.W.typeIn K (.ref C) = some (.type "type")
  kC : PySem.W.keepIn K (.ref C) = true
section
variable {X : Cx} {pins : List (Addr × Obj)} {σ : L2.St} {H : Hp} {s : Shared} {a C dx : Addr} {f : Str} {y : V} {u : Value} {fs : List (Str × V)} {Q : Unit → Shared → Prop} {E : Value → Shared → Prop} {A : Around} {B : String}
theorem ox_first (T : OxC X.K C B) (I : Inv X pins σ H s) (e : H a = some (exo a C none)) (hno : PySem.W.findIn X.K (.ref C) f = some none) (ry : RelV y u)
    (h : ∀ dx s1, H dx = none → dx ≠ a → Inv X pins σ (upd (upd H dx (exd dx [(f, y)])) a (exo a C (some dx))) s1 → Q () s1) : wpAny (model X.prog X.w) A (setAttr (.ref a) f u) Q E s := by
  obtain ⟨nm, q, N, bs, bm, sn, sub, ab, col, dd, k0, k1, k2, k3, k5, newId, hC, _, _, hm⟩ := T.cls
  have hcl : ∃ cd, PySem.W.clsIn X.K C = some cd ∧ cd.mro = .ref C :: bm ∧ cd.hasDict = true := by
    unfold PySem.W.clsIn
    rw [hC]
    exact ⟨_, rfl, rfl, rfl⟩
  obtain ⟨cd, hcd, em, ehd⟩ := hcl
  obtain ⟨t1, ho⟩ := exo_at I.hok e
  obtain ⟨h0, gs, dr, tn, os⟩ := s
  refine PySem.W.set_plain I.kIn (ox := { cls := .ref C, dict := none, data := .fields #[.ref t1, .none, .none, .none, .bool false, .none] }) (od := none) ⟨ho, rfl, rfl, trivial⟩ T.sa ?_
  refine PySem.Oxb.store_first I.kIn ho hcd (em ▸ hm) ehd hno (fun h1 t2 dx kp hbig hne hx hn => ?_)
  have fresh : H dx = none := I.hok.fresh hbig
  have offD : ∀ {b : Addr} {o : Obj}, h0.get? b = some o → b ≠ dx := fun z => Nat.ne_of_lt (Nat.lt_of_lt_of_le (Heap.lt_size z) hbig)
  have offA : ∀ {b : Addr}, H b = none → b ≠ a := fun {b} z1 z2 => by
    rw [z2, e] at z1
    cases z1
  have U : Un X.fs [] H (upd (upd H dx (exd dx [(f, y)])) a (exo a C (some dx))) h0 h1 :=
    ⟨fun b o z n _ _ => kp b o (offA n) z, fun b o z n _ _ => ⟨o.slots, kp b o (offA n) z⟩, fun b o z n _ => by rw [upd_ne (offA n), upd_ne (offD z)]; exact n,
      fun b o z _ => by
        by_cases hb : b = a
        · exact ⟨_, hb ▸ hx⟩
        · exact ⟨o, kp b o hb z⟩,
      fun b xs z => by rw [upd_ne (at_ne e z exo_tup), upd_ne (ne_of_none z fresh)]; exact z,
      fun b o v z => by rw [upd_ne (at_ne e z exo_frz), upd_ne (ne_of_none z fresh)]; exact z,
      fun b ps z => ⟨#[], by rw [upd_ne (at_ne e z exo_tbl), upd_ne (ne_of_none z fresh), z]; simp⟩⟩
  refine h dx _ fresh hne (I.un (t' := t2) U fun b o z => ?_)
  by_cases hb : b = a
  · subst hb
    rw [upd_same] at z
    cases z
    exact exo_ok hx
  rw [upd_ne hb] at z
  by_cases hd : b = dx
  · subst hd
    rw [upd_same] at z
    cases z
    exact exd_ok hn (relO_put (fs := []) ry fun _ => True.intro)
  rw [upd_ne hd] at z
  refine (I.hok b o z).stay (fun c v hc z2 => kp c v (fun z3 => ?_) z2) (fun c hc => by rw [upd_ne (at_ne e hc exo_own), upd_ne (ne_of_none hc fresh)]; exact hc) (fun c xs hc => by rw [upd_ne (at_ne e hc exo_tup), upd_ne (ne_of_none hc fresh)]; exact hc)
  rcases hc with hc | hc
  · exact hb (hc.symm.trans z3)
  · exact at_ne e hc exo_own z3
theorem ox_more (T : OxC X.K C B) (I : Inv X pins σ H s) (e : H a = some (exo a C (some dx))) (ed : H dx = some (exd dx fs)) (hl : fs.length ≤ 900) (hno : PySem.W.findIn X.K (.ref C) f = some none) (ry : RelV y u)
    (h : ∀ s1, Inv X pins σ (upd H dx (exd dx ((f, y) :: fs))) s1 → Q () s1) : wpAny (model X.prog X.w) A (setAttr (.ref a) f u) Q E s := by
  obtain ⟨nm, q, N, bs, bm, sn, sub, ab, col, dd, k0, k1, k2, k3, k5, newId, hC, _, _, hm⟩ := T.cls
  have hcl : ∃ cd, PySem.W.clsIn X.K C = some cd ∧ cd.mro = .ref C :: bm ∧ cd.hasDict = true := by
    unfold PySem.W.clsIn
    rw [hC]
    exact ⟨_, rfl, rfl, rfl⟩
  obtain ⟨cd, hcd, em, ehd⟩ := hcl
  obtain ⟨t1, ho⟩ := exo_at I.hok e
  obtain ⟨mA, hns, rel⟩ := exd_at I.hok ed
  have hw := within_of rel
  obtain ⟨h0, gs, dr, tn, os⟩ := s
  obtain ⟨oD, _, _, hoD, _, _⟩ := hns.count hw
  refine PySem.W.set_plain I.kIn (ox := { cls := .ref C, dict := some dx, data := .fields #[.ref t1, .none, .none, .none, .bool false, .none] }) (od := some oD) ⟨ho, rfl, rfl, hoD⟩ T.sa ?_
  refine PySem.Oxb.store_more I.kIn ho hns hw (by rw [List.length_map]; omega) hcd (em ▸ hm) ehd hno (fun h1 t2 kp hn => ?_)
  obtain ⟨o2, _, _, e2, _⟩ := id hn
  exact h _ (I.write (t' := t2) (x := dx) (e := dx) (o := exd dx ((f, y) :: fs)) (by rw [ed]; exact True.intro) (.inl rfl) kp ⟨o2, e2⟩ (exd_ok hn (relO_put ry rel)))
theorem ox_init {us : List Value} {Q : Value → Shared → Prop} (T : OxC X.K C B) (I : Inv X pins σ H s) (e : H a = some (exo a C none)) (hl : us.length ≤ sizeLine) (h : ∀ s1, Inv X pins σ H s1 → Q .none s1) :
    wpAny (model X.prog X.w) A (call (.builtin (B ++ ".__init__")) (.ref a :: us)) Q E s := by
  obtain ⟨nm, q, N, bs, bm, sn, sub, ab, col, dd, k0, k1, k2, k3, k5, newId, hC, _, FB, _⟩ := T.cls
  obtain ⟨t1, ho⟩ := exo_at I.hok e
  obtain ⟨h0, gs, dr, tn, os⟩ := s
  refine wpAny_call (PySem.Oxb.init_any FB (I.kIn _ _ hC) ho hl fun h1 t2 kp hx => ?_)
  have J := I.write (t' := tn) (x := a) (e := a) (o := exo a C none) (by rw [e]; exact True.intro) (.inl rfl) kp ⟨_, hx⟩ (exo_ok hx)
  have same : upd H a (exo a C none) = H := funext fun b => by
    by_cases hb : b = a
    · rw [hb, upd_same, e]
    · rw [upd_ne hb]
  rw [same] at J
  exact h _ J
end
/-- B.__init__(self, ..) -/
def tBI (K : PySem.W.Frag) (B : String) (ta : TA) : TE := fun σ H Q => ta σ H fun vs H1 => ∃ (a C : Addr) (ws : List V), vs = .ref a :: ws ∧ ws.length ≤ 1000 ∧ OxC K C B ∧ H1 a = some (exo a C none) ∧ Q .non H1
/-- self.f = e -/
def tOxs (K : PySem.W.Frag) (f : Str) (to te : TE) : TS := fun D σ H => te σ H fun y H1 => to σ H1 fun x H2 => ∃ (a C : Addr) (B : String), x = .ref a ∧ OxC K C B ∧ PySem.W.findIn K (.ref C) f = some none ∧
  ((H2 a = some (exo a C none) ∧ ∀ dx, H2 dx = none → dx ≠ a → D.nx σ (upd (upd H2 dx (exd dx [(f, y)])) a (exo a C (some dx)))) ∨
    ∃ (dx : Addr) (fs : List (Str × V)), H2 a = some (exo a C (some dx)) ∧ H2 dx = some (exd dx fs) ∧ fs.length ≤ 900 ∧ D.nx σ (upd H2 dx (exd dx ((f, y) :: fs))))
section
variable {X : Cx} {o e : Expr} {es : List Expr} {to te : TE} {ta : TA} {f : Str} {p p' p1 p2 pos : Pos} {B : String}
/-- B's own facts: the name, its type, its __init__ -/
structure BInit (K : PySem.W.Frag) (B : String) : Prop where
  boot : bootBuiltins (Str.ofString B) = some (.type B)
  ty : typeOf (.type B) = pure (.type "type")
  stub : Manifest.isStub B = false
  fnd : PySem.W.findCls K (.type B) (.type "type") "__init__" = some (.val (.builtin (B ++ ".__init__")))
  out : PySem.W.handedIn (.builtin (B ++ ".__init__")) = true
  nn : Str.ofString B ≠ "__name__"
  nd : (Str.ofString B == ("__debug__" : Str)) = false
theorem pe_binit {pl : Sem Bool} (b : BInit X.K B) (hg : Gl X (Str.ofString B)) (hm : X.mg (Str.ofString B) = none) (ha : PA X (e :: es) ta)
    (hc : eval (.Call (.Attribute (.Name (Str.ofString B) p1) "__init__" p2) (e :: es) [] pos) X.env = (do
      let ov ← eval (.Name (Str.ofString B) p1) X.env
      standAt p2.atName
      let (fn, first) ← holding [ov] (getMethod ov "__init__" pl)
      callWith pos fn first (backTo pos (starEach (e :: es) X.env)) (backToKw pos (keywordEach [] X.env))) := by rfl)
    (he : starEach (e :: es) X.env = (false, eval e X.env) :: starEach es X.env := by rfl) (hpl : (backTo pos (starEach es X.env)).any (·.1) = false := by rfl) :
    PE X (.Call (.Attribute (.Name (Str.ofString B) p1) "__init__" p2) (e :: es) [] pos) (tBI X.K B ta) := by
  refine ⟨fun pins s σ H Q I rd => ?_⟩
  refine PySem.W.methodCall_KW (ld_blt I hg hm b.boot ?_ b.nn b.nd) hc
  obtain ⟨m, fr⟩ := I.fr
  refine PySem.W.method_type fr I.ok.mod.kin b.ty b.stub b.fnd b.out ?_
  show wpAny _ _ (callWith pos (Value.builtin (B ++ ".__init__")) [] (backTo pos (starEach (e :: es) X.env)) []) _ _ _
  refine PyProof.Rows.callWith_method1 (thn (ha.run pos pins _ σ H _ (I.tok _) rd) fun us s1 ⟨vs, H1, I1, r1, a, C, ws, ev, hl, T, ea, q⟩ => ?_) he hpl
  subst ev
  cases r1 with
  | cons ra rs =>
    cases ra
    exact ox_init T I1 ea (by rw [← Paired.length rs, sizeLine_eq]; omega) fun s2 J => ⟨.non, H1, J, rfl, q⟩
theorem ps_oxs (ho : PE X o to) (he : PE X e te) (hs : swapsWith e (some (.Attribute o f p')) pos.line X.env = pure false := by rfl) : PS X (.Assign [.Attribute o f p'] e pos) (tOxs X.K f to te) := by
  refine ⟨fun pins s σ H D I rd => plainObj_wpAny_Assign_Attribute (thn (he.run pins s σ H _ I rd) fun v s1 ⟨y, H1, I1, r1, q1⟩ => thn (ho.run pins s1 σ H1 _ I1 q1) fun u s2 ⟨z, H2, I2, r2, a, C, B, ez, T, hno, q⟩ => ?_) hs⟩
  subst ez
  cases r2
  rcases q with ⟨ea, q⟩ | ⟨dx, fs, ea, ed, hl, q⟩
  · exact ox_first T I2 ea hno r1 fun dx s3 n ne J => ⟨σ, _, J, q dx n ne⟩
  · exact ox_more T I2 ea ed hl hno r1 fun s3 J => ⟨σ, _, J, q⟩
end
/-- C(e, ..) as a value: tracked from then on -/
def tMkV (C : Addr) (sp : Sp) (ta : TA) : TE := fun σ H Q => ta σ H fun vs H1 => vs.length ≤ 1000 ∧ ∀ a, H1 a = none → sp (.ref a :: vs) (upd H1 a (exo a C none))
  (fun v H2 => v = .non ∧ ∃ (d : Addr) (fs : List (Str × V)), H2 a = some (exo a C (some d)) ∧ H2 d = some (exd d fs) ∧ Q (.ref a) (upd (upd H2 a (exv a C d)) d (.xd fs))) (fun _ _ _ => False)
section
variable {X : Cx} {e : Expr} {es : List Expr} {ta : TA} {p pos : Pos} {B : String} {CX : CXT} {x : Str} {C fI : Addr} {k : Nat} {fd : FuncData} {ps : List Str} {sp : Sp}
/-- the exception that its __init__ has left, as a value -/
theorem inv_value {pins : List (Addr × Obj)} {σ : L2.St} {H : Hp} {s : Shared} {a d : Addr} {fs : List (Str × V)} (I : Inv X pins σ H s) (ea : H a = some (exo a C (some d))) (ed : H d = some (exd d fs)) :
    Inv X pins σ (upd (upd H a (exv a C d)) d (.xd fs)) s := by
  obtain ⟨t1, h1⟩ := exo_at I.hok ea
  obtain ⟨mA, h2, rel⟩ := exd_at I.hok ed
  obtain ⟨od, es', ep', h3, h4, _⟩ := id h2
  have nda : d ≠ a := fun z => by
    rw [z, h1] at h3
    have z2 := Option.some.inj h3
    subst z2
    cases h4
  have I1 := I.write (t' := s.toks) (x := a) (e := a) (o := exv a C d) (h' := s.heap) (by rw [ea]; exact True.intro) (.inl rfl) (fun _ _ _ z => z) ⟨_, h1⟩ (exv_ok h1 rfl rfl rfl)
  have ed1 : (upd H a (exv a C d)) d = some (exd d fs) := by
    rw [upd_ne nda]
    exact ed
  exact I1.write (t' := s.toks) (x := d) (e := d) (o := .xd fs) (h' := s.heap) (by rw [ed1]; exact True.intro) (.inl rfl) (fun _ _ _ z => z) ⟨_, h3⟩ ⟨mA, h2, rel⟩
theorem run_ox {pins : List (Addr × Obj)} {σ : L2.St} {H1 : Hp} {vs : List V} {us : List Value} {hp : Heap} {gs : Array GenState} {dr : Drawn} {tk : Nat} {os : OsState} {Qk : V → Hp → Prop} {G : Value → Shared → Prop} (T : OxC X.K C B) (iC : PySem.W.findIn X.K (.ref C) "__init__" = some (some (.ref fI)))
    (tI : PySem.W.typeIn X.K (.ref fI) = some (.type "function")) (F1 : FnOk X.prog X.w X.K X.mg X.base CX k fI fd ps sp) (hr : Room (k + 1) X.A) (hb : Binds X.K fd ps []) (hx : Passes CX X (fun _ _ _ => False)) (I1 : Inv X pins σ H1 ⟨hp, gs, dr, tk, os⟩) (r1 : Vals vs us) (hz : vs.length ≤ 1000)
    (q1 : sp (.ref (hp.objs.size + 1) :: vs) (upd H1 (hp.objs.size + 1) (exo (hp.objs.size + 1) C none)) Qk (fun _ _ _ => False))
    (fin : ∀ (kk : ∀ b o, hp.get? b = some o → ((hp.push (PySem.W.kdv_tup us)).push (PySem.HandSPX.excO C hp.objs.size)).get? b = some o)
      (I2 : Inv X pins σ (upd H1 (hp.objs.size + 1) (exo (hp.objs.size + 1) C none)) ⟨(hp.push (PySem.W.kdv_tup us)).push (PySem.HandSPX.excO C hp.objs.size), gs, dr, tk, os⟩) (v : V) (u : Value) (H2 : Hp) (s2 : Shared), s2.os = os → AllBare s2.gens →
      Un (frs X.stack) [] (upd H1 (hp.objs.size + 1) (exo (hp.objs.size + 1) C none)) H2 ((hp.push (PySem.W.kdv_tup us)).push (PySem.HandSPX.excO C hp.objs.size)) s2.heap → HOk X.prog X.w H2 s2.heap → RelV v u → Qk v H2 → u = .none ∧ G (.ref (hp.objs.size + 1)) s2) :
    wpAny (model X.prog X.w) X.A (call (.ref C) us) G X.xe ⟨hp, gs, dr, tk, os⟩ := by
  obtain ⟨nm, q, N, bs, bm, sn, sub, ab, col, dd, k0, k1, k2, k3, k5, newId, hC, Nw, _, _⟩ := T.cls
  have kk : ∀ b o, hp.get? b = some o → ((hp.push (PySem.W.kdv_tup us)).push (PySem.HandSPX.excO C hp.objs.size)).get? b = some o := fun b o z => Heap.get?_push_of_some _ (Heap.get?_push_of_some _ z)
  have hE : ((hp.push (PySem.W.kdv_tup us)).push (PySem.HandSPX.excO C hp.objs.size)).get? (hp.objs.size + 1) = some (PySem.HandSPX.excO C hp.objs.size) := by heap_get
  have I2 := I1.laid (t' := tk) (a := hp.objs.size + 1) (o := exo (hp.objs.size + 1) C none) kk (Nat.le_succ _) (exo_ok hE)
  have r2 : Vals (V.ref (hp.objs.size + 1) :: vs) (Value.ref (hp.objs.size + 1) :: us) := .cons rfl r1
  have hl : (Value.ref (hp.objs.size + 1) :: us ++ []).length = ps.length := by
    rw [List.append_nil, ← r2.length]
    exact F1.len _ _ _ _ q1
  have bd := hb _ (Value.ref (hp.objs.size + 1) :: us) I2.kIn hl
  rw [List.append_nil] at bd
  refine wpAny_call (PySem.Oxb.call_any Nw (I1.kIn _ _ hC) (PySem.W.looks_findIn I1.kIn iC) (fun self => PySem.W.bind_fn I1.kIn self tI) (by rw [← Paired.length r1, sizeLine_eq]; omega)
    (codeAny_mono (F1.run _ X.stack _ _ ⟨Value.ref (hp.objs.size + 1) :: us, []⟩ (Value.ref (hp.objs.size + 1) :: us) _ _ (fun _ _ _ => False) (hr.make C us []) (I2.env0.make C us []) bd r2 q1) fun res s2 hq => ?_))
  cases res with
  | error er => exact hx pins σ _ _ er s2 I2 hq
  | ok fl =>
    cases fl with
    | ret u =>
      obtain ⟨v, H2, o2, b2, un2, ok2, rv, qv⟩ := hq
      exact fin kk I2 v u H2 s2 o2 b2 un2 ok2 rv qv
    | next => exact hq.elim
    | brk => exact hq.elim
    | cont => exact hq.elim
/-- raise C(e, ..) -/
theorem pmk_ox (T : OxC X.K C B) (iC : PySem.W.findIn X.K (.ref C) "__init__" = some (some (.ref fI))) (tI : PySem.W.typeIn X.K (.ref fI) = some (.type "function"))
    (F1 : FnOk X.prog X.w X.K X.mg X.base CX k fI fd ps sp) (hr : Room (k + 1) X.A) (hb : Binds X.K fd ps []) (hx : Passes CX X (fun _ _ _ => False)) (hg : Gl X x) (hm : X.mg x = some (.ref C)) (ha : PA X (e :: es) ta)
    (hdb : (x == ("__debug__" : Str)) = false := by decide) (he : starEach (e :: es) X.env = (false, eval e X.env) :: starEach es X.env := by rfl) (hpl : (backTo pos (starEach es X.env)).any (·.1) = false := by rfl) :
    PMk X (.Call (.Name x p) (e :: es) [] pos) (tMkO C sp [] ta) := by
  intro pins s σ H Q I rd
  refine wpAny_Call_Name_kw (ld_glob I hg hm ?_ hdb)
  refine PySem.W.callWith_K (h₀ := X.base) I.ok.mod.kin T.kC (thn (ha.run pos pins s σ H _ I rd) fun us s1 ⟨vs, H1, I1, r1, hz, q1⟩ => ⟨I1.kIn, ?_⟩) he hpl
  show wpAny _ _ (call (.ref C) us) _ _ _
  obtain ⟨hp, gs, dr, tk, os⟩ := s1
  have q2 := q1 (hp.objs.size + 1) (I1.hok.fresh (Nat.le_succ _))
  rw [List.append_nil] at q2
  refine run_ox T iC tI F1 hr hb hx I1 r1 hz q2 (fun kk I2 v u H2 s2 o2 b2 un2 ok2 rv qv => ?_)
  obtain ⟨ev, d, fs, ea, ed, hd1, q3⟩ := qv
  subst ev
  obtain ⟨h2, g2, d2, t2, os2⟩ := s2
  exact ⟨rv, mk_end (raises_own T.exC T.tyC) I1 (Nat.le_succ _) kk un2 ok2 o2 b2 ea ed hd1 q3⟩
theorem pe_mkv (T : OxC X.K C B) (iC : PySem.W.findIn X.K (.ref C) "__init__" = some (some (.ref fI))) (tI : PySem.W.typeIn X.K (.ref fI) = some (.type "function"))
    (F1 : FnOk X.prog X.w X.K X.mg X.base CX k fI fd ps sp) (hr : Room (k + 1) X.A) (hb : Binds X.K fd ps []) (hx : Passes CX X (fun _ _ _ => False)) (hg : Gl X x) (hm : X.mg x = some (.ref C)) (ha : PA X (e :: es) ta)
    (hdb : (x == ("__debug__" : Str)) = false := by decide) (he : starEach (e :: es) X.env = (false, eval e X.env) :: starEach es X.env := by rfl) (hpl : (backTo pos (starEach es X.env)).any (·.1) = false := by rfl) :
    PE X (.Call (.Name x p) (e :: es) [] pos) (tMkV C sp ta) := by
  refine ⟨fun pins s σ H Q I rd => ?_⟩
  refine wpAny_Call_Name_kw (ld_glob I hg hm ?_ hdb)
  refine PySem.W.callWith_K (h₀ := X.base) I.ok.mod.kin T.kC (thn (ha.run pos pins s σ H _ I rd) fun us s1 ⟨vs, H1, I1, r1, hz, q1⟩ => ⟨I1.kIn, ?_⟩) he hpl
  show wpAny _ _ (call (.ref C) us) _ _ _
  obtain ⟨hp, gs, dr, tk, os⟩ := s1
  have q2 := q1 (hp.objs.size + 1) (I1.hok.fresh (Nat.le_succ _))
  refine run_ox T iC tI F1 hr hb hx I1 r1 hz q2 (fun kk I2 v u H2 s2 o2 b2 un2 ok2 rv qv => ?_)
  obtain ⟨ev, d, fs, ea, ed, q3⟩ := qv
  subst ev
  exact ⟨rv, .ref (hp.objs.size + 1), _, inv_value (I2.call' (ch := []) o2 un2 ok2 b2 (fun _ z => nomatch z)) ea ed, rfl, q3⟩
end
/-! ### the built-in errors that own ones stand under -/
section
open PySem.Oxb
theorem cont_obj {C : Addr} {l : List Value} (h : l.contains (.type "object") = true) : (Value.ref C :: l).contains (.type "object") = true := by
  rw [List.contains_cons, h, Bool.or_true]
theorem new_VE : NewOk "ValueError.__new__" [.type "ValueError", .type "Exception", .type "BaseException", .type "object"] := ⟨_, _, _, PySem.F.excBase_ValueError, by decide +kernel, by decide +kernel, by decide +kernel⟩
theorem init_VE : InitOk "ValueError" [.type "ValueError", .type "Exception", .type "BaseException", .type "object"] :=
  ⟨PySem.F.excBase_ValueError.init.plain, PySem.F.excBase_ValueError.initEntry, PySem.F.excBase_ValueError.initKind, PySem.F.excBase_ValueError.initSplit, PySem.F.excBase_ValueError.initRow, PySem.F.excBase_ValueError.noStar, by decide +kernel⟩
theorem mro_VE (C : Addr) : MroOk (.ref C :: [.type "ValueError", .type "Exception", .type "BaseException", .type "object"]) :=
  ⟨fun self => by rw [refuseLoop_ref]; exact PySem.F.store_ValueError.passes self, cont_obj (by decide +kernel), rfl⟩
theorem new_KE : NewOk "LookupError.__new__" [.type "KeyError", .type "LookupError", .type "Exception", .type "BaseException", .type "object"] := ⟨_, _, _, PySem.F.excBase_LookupError, by decide +kernel, by decide +kernel, by decide +kernel⟩
theorem init_KE : InitOk "KeyError" [.type "KeyError", .type "LookupError", .type "Exception", .type "BaseException", .type "object"] where
  plain := by decide +kernel
  entry := entryFor_alias (id' := "BaseException.__init__") (by rw [fastTable_eq_tree]; kernel_rfl)
    (by first | rfl | decide +kernel) (by decide +kernel) (by rw [fastTable_eq_tree]; kernel_rfl)
  kind := by kernel_rfl
  split := by kernel_rfl
  row := by kernel_rfl
  star := by decide +kernel
  has := by decide +kernel
theorem mro_KE (C : Addr) : MroOk (.ref C :: [.type "KeyError", .type "LookupError", .type "Exception", .type "BaseException", .type "object"]) :=
  ⟨fun self => by rw [refuseLoop_ref]; kernel_rfl, cont_obj (by decide +kernel), rfl⟩
end
/-! ### further built-in errors that own ones stand under -/
section
open PySem.Oxb
theorem new_LE : NewOk "LookupError.__new__" [.type "LookupError", .type "Exception", .type "BaseException", .type "object"] := ⟨_, _, _, PySem.F.excBase_LookupError, by decide +kernel, by decide +kernel, by decide +kernel⟩
theorem init_LE : InitOk "LookupError" [.type "LookupError", .type "Exception", .type "BaseException", .type "object"] :=
  ⟨PySem.F.excBase_LookupError.init.plain, PySem.F.excBase_LookupError.initEntry, PySem.F.excBase_LookupError.initKind, PySem.F.excBase_LookupError.initSplit, PySem.F.excBase_LookupError.initRow, PySem.F.excBase_LookupError.noStar, by decide +kernel⟩
theorem mro_LE (C : Addr) : MroOk (.ref C :: [.type "LookupError", .type "Exception", .type "BaseException", .type "object"]) :=
  ⟨fun self => by rw [refuseLoop_ref]; kernel_rfl, cont_obj (by decide +kernel), rfl⟩
theorem new_IE : NewOk "IndexError.__new__" [.type "IndexError", .type "LookupError", .type "Exception", .type "BaseException", .type "object"] := ⟨_, _, _, PySem.F.excBase_IndexError, by decide +kernel, by decide +kernel, by decide +kernel⟩
theorem init_IE : InitOk "IndexError" [.type "IndexError", .type "LookupError", .type "Exception", .type "BaseException", .type "object"] :=
  ⟨PySem.F.excBase_IndexError.init.plain, PySem.F.excBase_IndexError.initEntry, PySem.F.excBase_IndexError.initKind, PySem.F.excBase_IndexError.initSplit, PySem.F.excBase_IndexError.initRow, PySem.F.excBase_IndexError.noStar, by decide +kernel⟩
theorem mro_IE (C : Addr) : MroOk (.ref C :: [.type "IndexError", .type "LookupError", .type "Exception", .type "BaseException", .type "object"]) :=
  ⟨fun self => by rw [refuseLoop_ref]; kernel_rfl, cont_obj (by decide +kernel), rfl⟩
theorem new_RE : NewOk "RuntimeError.__new__" [.type "RuntimeError", .type "Exception", .type "BaseException", .type "object"] := ⟨_, _, _, PySem.F.excBase_RuntimeError, by decide +kernel, by decide +kernel, by decide +kernel⟩
theorem init_RE : InitOk "RuntimeError" [.type "RuntimeError", .type "Exception", .type "BaseException", .type "object"] :=
  ⟨PySem.F.excBase_RuntimeError.init.plain, PySem.F.excBase_RuntimeError.initEntry, PySem.F.excBase_RuntimeError.initKind, PySem.F.excBase_RuntimeError.initSplit, PySem.F.excBase_RuntimeError.initRow, PySem.F.excBase_RuntimeError.noStar, by decide +kernel⟩
theorem mro_RE (C : Addr) : MroOk (.ref C :: [.type "RuntimeError", .type "Exception", .type "BaseException", .type "object"]) :=
  ⟨fun self => by rw [refuseLoop_ref]; kernel_rfl, cont_obj (by decide +kernel), rfl⟩
theorem new_AE : NewOk "ArithmeticError.__new__" [.type "ArithmeticError", .type "Exception", .type "BaseException", .type "object"] := ⟨_, _, _, PySem.F.excBase_ArithmeticError, by decide +kernel, by decide +kernel, by decide +kernel⟩
theorem init_AE : InitOk "ArithmeticError" [.type "ArithmeticError", .type "Exception", .type "BaseException", .type "object"] :=
  ⟨PySem.F.excBase_ArithmeticError.init.plain, PySem.F.excBase_ArithmeticError.initEntry, PySem.F.excBase_ArithmeticError.initKind, PySem.F.excBase_ArithmeticError.initSplit, PySem.F.excBase_ArithmeticError.initRow, PySem.F.excBase_ArithmeticError.noStar, by decide +kernel⟩
theorem mro_AE (C : Addr) : MroOk (.ref C :: [.type "ArithmeticError", .type "Exception", .type "BaseException", .type "object"]) :=
  ⟨fun self => by rw [refuseLoop_ref]; kernel_rfl, cont_obj (by decide +kernel), rfl⟩
theorem new_OE : NewOk "OverflowError.__new__" [.type "OverflowError", .type "ArithmeticError", .type "Exception", .type "BaseException", .type "object"] := ⟨_, _, _, PySem.F.excBase_OverflowError, by decide +kernel, by decide +kernel, by decide +kernel⟩
theorem init_OE : InitOk "OverflowError" [.type "OverflowError", .type "ArithmeticError", .type "Exception", .type "BaseException", .type "object"] :=
  ⟨PySem.F.excBase_OverflowError.init.plain, PySem.F.excBase_OverflowError.initEntry, PySem.F.excBase_OverflowError.initKind, PySem.F.excBase_OverflowError.initSplit, PySem.F.excBase_OverflowError.initRow, PySem.F.excBase_OverflowError.noStar, by decide +kernel⟩
theorem mro_OE (C : Addr) : MroOk (.ref C :: [.type "OverflowError", .type "ArithmeticError", .type "Exception", .type "BaseException", .type "object"]) :=
  ⟨fun self => by rw [refuseLoop_ref]; kernel_rfl, cont_obj (by decide +kernel), rfl⟩
end
/-! ### defs that make texts of lists and tuples: they run where no such text is under way -/
structure FnG (P : Program) (w : World) (K : PySem.W.Frag) (mg : Str → Option Value) (base : Heap) (k : Nat) (f : Addr) (fd : FuncData) (qs : List Str) (sp : Sp) : Prop where
  size : ∀ xs G R Z, sp xs G R Z → xs.length = qs.length
  goes : ∀ (B : Around) (up : List Env) (t : Shared) (G : Hp) (ar : Args) (ws : List Value) (xs : List V) (R : VK) (Z : XK), B.guards = some [] → Room k B → Env0 P w K mg base B up t G →
    BindsTo t fd ar (qs.zip ws) → Vals xs ws → sp xs G R Z → codeAny (model P w) B (.call (.ref f) ar) (CR CX0 up P w G t R Z) t
section
variable {P : Program} {w : World} {K : PySem.W.Frag} {mg : Str → Option Value} {base : Heap}
theorem fng_of {x qual : Str} {st : Stmt} {f : Addr} {fd : FuncData} {N qs : List Str} {k : Nat} {sp : Sp} (F : L2.Fun K x qual st f fd) (S : FnScope N qs (defScope st)) (size : ∀ xs G R Z, sp xs G R Z → xs.length = qs.length)
    (hb : ∀ (cv : Value) (B : Around) (up : List Env) (t : Shared) (G : Hp) (xs : List V) (R : VK) (Z : XK), (B.deeper (envOfC qual (defScope st) t.heap.objs.size f cv)).guards = some [] → Room k (B.deeper (envOfC qual (defScope st) t.heap.objs.size f cv)) → sp xs G R Z →
      ∃ d, PSs (cxOf CX0 P w K mg base N qual (defScope st) f cv B up t G Z).nox (defBody st) d ∧ d { nx := fun _ G' => R .non G', rt := R } (start N xs) G) : FnG P w K mg base (k + 1) f fd qs sp := by
  obtain ⟨oc, od, kV, doc, pm, an, cv, ct, osl, rfl, at_, co⟩ := F.ex
  refine ⟨size, fun B up t G ar ws xs R Z hg rm e0 bt rel hsp => ?_⟩
  have keepB : ∀ b o, base.get? b = some o → t.heap.get? b = some o := fun b o e => (e0.bs b o e).1
  have inT : K.In t.heap := e0.mod.kin.keeps keepB
  have noL : t.heap.NoLimit := e0.mod.nolimit.keeps keepB
  have kinds : ∀ y ∈ qs.zip ws, (defScope st).names.lookup y.1 = some .local ∨ ((defScope st).names.lookup y.1 = some .cell ∧ ((cellsFrom (t.heap.objs.size + 1) (defScope st).names []).lookup y.1).isSome = true) := by
    rintro ⟨n, v⟩ hy
    rcases S.par n (List.of_mem_zip hy).1 with z | z
    · exact .inl z
    · exact .inr ⟨z, PySem.W.cellsFrom_some _ _ _ (.inl z)⟩
  refine codeAny_call_function rm.depth (inT _ _ at_) rfl S.co S.gen rfl (PySem.W.codeRec_of inT co) (bt _ _ _ _ ?_)
  refine wpAny_newFunctionEnv_cells S.kind kinds fun en hen t1 y => ?_
  subst hen
  refine ⟨noL.keeps y.toInCall.keep, codeAny_func ?_⟩
  obtain ⟨d, hd, hq⟩ := hb cv B up t G xs R Z hg (rm.deeper _) hsp
  have J0 : Inv (cxOf CX0 P w K mg base N qual (defScope st) f cv B up t G Z) [] (start N xs) G t1 := inv_start S rm.hd e0 (size _ _ _ _ hsp) rel y
  refine wpAny_mono (hd.nox.run [] t1 (start N xs) G _ J0 hq) (fun out t' hs => ?_) fun _ _ hs => hs
  cases out with
  | next =>
    obtain ⟨_, G', J, z⟩ := hs
    exact ⟨.non, G', J.os, J.bare, J.base, J.hok, rfl, z⟩
  | ret u =>
    obtain ⟨v, _, G', J, rv, z⟩ := hs
    exact ⟨v, G', J.os, J.bare, J.base, J.hok, rv, z⟩
  | brk =>
    obtain ⟨_, _, _, z⟩ := hs
    exact z.elim
  | cont =>
    obtain ⟨_, _, _, z⟩ := hs
    exact z.elim
end
/-- such a def under its name -/
structure CalG (P : Program) (w : World) (K : PySem.W.Frag) (mg : Str → Option Value) (base : Heap) (k : Nat) (x : Str) (sp : Sp) : Prop where
  ex : ∃ (f : Addr) (fd : FuncData) (qs : List Str), FnG P w K mg base k f fd qs sp ∧ mg x = some (.ref f) ∧ PySem.W.keepIn K (.ref f) = true ∧ Binds K fd qs []
section
variable {X : Cx} {k j : Nat} {x : Str} {sp : Sp} {p pos : Pos} {e : Expr} {es : List Expr} {t : TA}
theorem pe_cG (c : CalG X.prog X.w X.K X.mg X.base k x sp) (hg : X.A.guards = some []) (hr : Room j X.A) (hk : k ≤ j) (gl : Gl X x) (ha : PA X (e :: es) t) (hdb : (x == ("__debug__" : Str)) = false := by decide)
    (he : starEach (e :: es) X.env = (false, eval e X.env) :: starEach es X.env := by rfl) (hpl : (backTo pos (starEach es X.env)).any (·.1) = false := by rfl) : PE X (.Call (.Name x p) (e :: es) [] pos) (tCall sp [] C8.E0 t) := by
  obtain ⟨f, fd, qs, F, hm, kp, b⟩ := c.ex
  refine ⟨fun pins s σ H Q I h => wpAny_Call_Name_kw (ld_glob I gl hm ?_ hdb)⟩
  refine PySem.W.callWith_K (h₀ := X.base) I.ok.mod.kin kp (thn (ha.run pos pins s σ H _ I h) fun us s1 ⟨vs, H1, I1, r, q⟩ => ⟨I1.kIn, ?_⟩) he hpl
  have q2 : sp vs H1 Q C8.E0 := by
    have q3 : sp (vs ++ []) H1 Q C8.E0 := q
    rw [List.append_nil] at q3
    exact q3
  have hl : us.length = qs.length := by
    rw [← r.length]
    exact F.size _ _ _ _ q2
  have bb := b s1 us I1.kIn (by rw [List.append_nil]; exact hl)
  rw [List.append_nil] at bb
  refine wpAny_call (codeAny_mono (F.goes X.A X.stack s1 H1 ⟨us, []⟩ us vs Q C8.E0 hg (hr.mono hk) I1.env0 bb r q2) fun res s' hq => ?_)
  cases res with
  | error er => exact hq.elim
  | ok fl =>
    cases fl with
    | ret u => exact I1.after hq
    | next => exact hq.elim
    | brk => exact hq.elim
    | cont => exact hq.elim
/-- repr of data -/
def rReprD (K : PySem.W.Frag) : List V → Hp → VK → Prop := fun xs H Q => ∃ (v : V) (d : PyData), xs = [v] ∧ Dp K H v d ∧ d.showable = true ∧ d.hasDict = false ∧ d.depth ≤ 100 ∧ d.shown.length ≤ sizeLine ∧ Q (.str d.shown) H
theorem cr_reprD (hg : X.A.guards = some []) (hr : Room j X.A) : CallR X (.builtin "repr") (rReprD X.K) := by
  intro pins s σ H xs us Q I r h
  obtain ⟨v, d, rfl, hd, hs, hn, hp, hz, q⟩ := h
  cases r with
  | cons r1 rr =>
    cases rr
    have un := hr.un
    cases hd with
    | non =>
      cases (show _ = Value.none from r1)
      exact PySem.P.repr_of_none ⟨.str "None", H, I.tok _, ⟨_, rfl⟩, q⟩
    | bl b =>
      cases (show _ = Value.bool b from r1)
      exact PySem.P.repr_of_bool ⟨.str (PyData.shown (.bool b)), H, I.tok _, ⟨_, by cases b <;> rfl⟩, q⟩
    | int i =>
      obtain ⟨t, rfl⟩ := (show ∃ t, _ = Value.int i t from r1)
      exact PySem.P.repr_of_int (of_decide_eq_true hs) ⟨.str (PyData.shown (.int i)), H, I.tok _, ⟨_, rfl⟩, q⟩
    | str z =>
      obtain ⟨t, rfl⟩ := (show ∃ t, _ = Value.str z t from r1)
      exact PySem.P.repr_of_str ⟨.str (PyData.shown (.str z)), H, I.tok _, ⟨_, rfl⟩, q⟩ hz
    | lst h1 h2 =>
      rename_i a xs ds
      obtain rfl : _ = Value.ref a := r1
      obtain ⟨as, rd⟩ := Dp.reads I (.list ds) (.ref a) (.ref a) (.lst h1 h2) rfl
      exact repr_of_reads' rd hs (PyData.noDict_hsm hn) hg (by omega) (fun _ _ e => e) (fun h' u tk hk => ⟨.str _, H, I.kept (t' := tk) hk, ⟨_, rfl⟩, q⟩) hz
    | tup h1 h2 =>
      rename_i a xs ds
      obtain rfl : _ = Value.ref a := r1
      obtain ⟨as, rd⟩ := Dp.reads I (.tuple ds) (.ref a) (.ref a) (.tup h1 h2) rfl
      exact repr_of_reads' rd hs (PyData.noDict_hsm hn) hg (by omega) (fun _ _ e => e) (fun h' u tk hk => ⟨.str _, H, I.kept (t' := tk) hk, ⟨_, rfl⟩, q⟩) hz
end
/-! ### the end, for a law that makes texts of lists and tuples -/
section
variable {P : Program} {w : World} {K : PySem.W.Frag} {mg mb : Str → Option Value} {k : Nat} {fa a : Addr} {fd : FuncData} {x : Str} {sp : Sp} {s1 : Shared} {us : List Value} {ns : List Int}
/-- from a heap in which the script alone may be tracked -/
theorem end_from {H : Hp} (inK : K.In s1.heap) (nm : s1.heap.Ns mainGlobals mg) (nb : s1.heap.Ns builtinsNs mb) (bb : ∀ y : Str, y ≠ "__name__" → mb y = bootBuiltins y) (lim : s1.heap.NoLimit) (gs : s1.gens = #[])
    (at_ : s1.heap.get? a = some { cls := .type "list", data := .seq us.toArray }) (rm : Room k callerA)
    (F : ∀ base : Heap, K.In base → base.Ns mainGlobals mg → FnG P w K mg base k fa fd [x] sp) (bt : ∀ (s : Shared) (u : Value), BindsTo s fd ⟨[u], []⟩ [(x, u)])
    (hO : Only H) (want : sp [.ref a] H (fun v _ => v = .bl true) fun _ _ _ => False) (hok : HOk P w H s1.heap) (onlyA : ∀ b, H b ≠ none → b = a) (offK : H a ≠ none → K.lookup a = none) :
    codeAny (model P w) callerA (.call (.ref fa) ⟨[.ref a], []⟩) (fun r s' => r = .ok (.ret (.bool true)) ∧ OldK s1.heap s'.heap ∧ s'.os = s1.os ∧ AllBare s'.gens) s1 := by
  have untr : ∀ {b : Addr}, (b = a → False) → H b = none := fun {b} nb => by
    cases z : H b with
    | none => rfl
    | some u => exact (nb (onlyA b (by rw [z]; simp))).elim
  have stay : ∀ {b : Addr} {o : Obj}, s1.heap.get? b = some o → H b = none → (hidT s1.heap H).get? b = some o := fun e n => hidT_get e n
  have names : ∀ {b : Addr} {m : Str → Option Value}, s1.heap.Ns b m → (hidT s1.heap H).Ns b m := fun {b m} ⟨o, es, ep, e, d, r⟩ => ⟨o, es, ep, stay e (untr fun z => by
    subst z
    rw [at_] at e
    cases e
    have d2 : Data.seq us.toArray _ = Data.dict es ep := d
    cases d2), d, r⟩
  have inK2 : K.In (hidT s1.heap H) := fun b o e => stay (inK b o e) (by
    cases z : H b with
    | none => rfl
    | some u =>
      have e2 : b = a := onlyA b (by rw [z]; simp)
      subst e2
      rw [offK (by rw [z]; simp)] at e
      cases e)
  obtain ⟨mc, l1, l2⟩ := lim
  have start0 : Env0 P w K mg (hidT s1.heap H) callerA [] s1 H :=
    ⟨rfl, ⟨inK2, names nm, ⟨mb, names nb, bb⟩, ⟨mc, names l1, l2⟩⟩, fun b o e => of_hidT e, Nat.le_of_eq (hidT_size _ _), trivial, fun b hb => absurd (show b ∈ ([] : List Addr) from hb) (by simp), hok, .of_eq gs⟩
  refine codeAny_mono ((F _ inK2 (names nm)).goes callerA [] s1 H ⟨[.ref a], []⟩ [.ref a] [.ref a] _ _ rfl rm start0 (bt s1 (.ref a)) (.cons rfl .nil) want) fun out t hs => ?_
  cases out with
  | error er => exact hs.elim
  | ok fl =>
    cases fl with
    | ret u =>
      obtain ⟨v, H', os, bare, un, hok2, rv, z⟩ := hs
      have z2 : v = .bl true := z
      subst z2
      obtain rfl : u = Value.bool true := rv
      refine ⟨rfl, OldK.of_keep fun b o e => ?_, os, bare⟩
      cases z : H b with
      | none => exact un.keep b o e z (fun y => absurd (show b ∈ ([] : List Addr) from y) (by simp)) (by simp)
      | some h0 =>
        rcases hO b with y | ⟨ob, xs, y⟩
        · rw [z] at y
          cases y
        · obtain ⟨e1, _⟩ := hok b _ y
          obtain ⟨e2, _⟩ := hok2 b _ (un.frzs b ob _ y)
          rw [e] at e1
          cases e1
          exact e2
    | next => exact hs.elim
    | brk => exact hs.elim
    | cont => exact hs.elim
theorem end_call (inK : K.In s1.heap) (nm : s1.heap.Ns mainGlobals mg) (nb : s1.heap.Ns builtinsNs mb) (bb : ∀ y : Str, y ≠ "__name__" → mb y = bootBuiltins y) (lim : s1.heap.NoLimit) (gs : s1.gens = #[])
    (at_ : s1.heap.get? a = some { cls := .type "list", data := .seq us.toArray }) (hIn : IntsAre us ns) (fits : ns.length ≤ sizeLine) (rm : Room k callerA)
    (F : ∀ base : Heap, K.In base → base.Ns mainGlobals mg → FnG P w K mg base k fa fd [x] sp) (bt : ∀ (s : Shared) (u : Value), BindsTo s fd ⟨[u], []⟩ [(x, u)])
    (want : ∀ H : Hp, Only H → SqL K H a (ns.map V.int) → sp [.ref a] H (fun v _ => v = .bl true) fun _ _ _ => False) :
    codeAny (model P w) callerA (.call (.ref fa) ⟨[.ref a], []⟩) (fun r s' => r = .ok (.ret (.bool true)) ∧ OldK s1.heap s'.heap ∧ s'.os = s1.os ∧ AllBare s'.gens) s1 := by
  have rel := vals_ints hIn
  have len := hIn.length
  cases lk : K.lookup a with
  | some o =>
    have e := inK a o lk
    rw [at_] at e
    cases e
    have only0 : Only (fun _ => none) := fun _ => .inl rfl
    exact end_from (H := fun _ => none) inK nm nb bb lim gs at_ rm F bt only0 (want _ only0 (.inr ⟨_, us.toArray, _, lk, rfl, rfl, rfl, by rw [List.size_toArray, len]; exact fits, by simpa using rel⟩))
      (fun b u z => nomatch (show (none : Option HO) = some u from z)) (fun b z => absurd rfl z) fun z => absurd rfl z
  | none =>
    have pos : ∀ {b : Addr}, b = a → (if b = a then some (HO.frz { cls := .type "list", data := .seq us.toArray } (.lst (ns.map V.int))) else none) = some (.frz { cls := .type "list", data := .seq us.toArray } (.lst (ns.map V.int))) := fun e => if_pos e
    have only1 : Only (fun b => if b = a then some (.frz { cls := .type "list", data := .seq us.toArray } (.lst (ns.map V.int))) else none) := fun b => by
      by_cases e : b = a
      · exact .inr ⟨_, _, pos e⟩
      · exact .inl (if_neg e)
    refine end_from inK nm nb bb lim gs at_ rm F bt only1 (want _ only1 (.inl (.inr ⟨{ cls := .type "list", data := .seq us.toArray }, if_pos rfl⟩))) (fun b u z => ?_) (fun b z => ?_) fun _ => lk
    · by_cases e : b = a
      · have y := (pos e).symm.trans z
        cases y
        subst e
        exact ⟨at_, by rw [List.length_map]; exact fits, us, _, rel, at_⟩
      · have y := (if_neg e).symm.trans z
        cases y
    · by_cases e : b = a
      · exact e
      · exact absurd (if_neg e) z
end
theorem walk_ofG {l : PySem.W.OpenLaw} {n k : Nat} {q : Program} {loose : List Str} {XP : (Str → Option Value) → Heap → Prop} {YP : World → Heap → Prop} {d : DefRec} {K : Params → PySem.W.Frag} {sp : World → Sp} {x : Str}
    (hn : l.most = some n) (hn2 : n ≤ sizeLine) (hdf : d.params.defaults = []) (rm : Room k callerA) (inK : ∀ (w : World) (h : Heap), YP w h → (K w.params).In h)
    (F : ∀ (w : World) (mg : Str → Option Value) (fa : Addr) (h : Heap), (K w.params).In h → h.Ns mainGlobals mg → mg d.name = some (.ref fa) →
      ∃ fd : FuncData, (∀ (s : Shared) (u : Value), BindsTo s fd ⟨[u], []⟩ [(x, u)]) ∧ ∀ base : Heap, (K w.params).In base → base.Ns mainGlobals mg → FnG l.prog w (K w.params) mg base k fa fd [x] (sp w))
    (want : ∀ (w : World) (H : Hp) (a : Addr) (ns : List Int), ns.length ≤ n → Only H → SqL (K w.params) H a (ns.map V.int) → sp w [.ref a] H (fun v _ => v = .bl true) fun _ _ _ => False) :
    PySem.W.WalkO q loose XP YP l.row.toRowW d [] (fun f vs => PySem.call f vs) := by
  refine Att.attach_call hn hdf fun w s0 s1 mg mb fa o pm cd doc a us ns G Y ho hd hcd hmg hobj hints hlen hg => ?_
  obtain ⟨fd, bt, go⟩ := F w mg fa _ (inK w _ Y) G.T.g hmg
  exact end_call (inK w _ Y) G.T.g G.T.b G.T.builtins G.T.nolimit hg hobj hints (Nat.le_trans hlen hn2) rm go bt fun H hO hS => want w H a ns hlen hO hS
def top (i : Nat) : Stmt := PySem.Challenge.pw_threereckons_k17_least_trees.main.body.getD i (.Pass ⟨0, 0, 0, 0⟩)
def isLet (c : Nat) : Bool := decide (97 ≤ c) && decide (c ≤ 122)
def OWNL : List Nat := [111, 119, 110]
/-! ### the draws -/
abbrev s__law_take : Stmt := top 59
abbrev N__law_take : List Str := ["_law_box", "_law_many", "_law_found", "_law_once", "_law_twice"]
abbrev P__law_take : List Str := ["_law_box", "_law_many"]
theorem sc__law_take : FnScope N__law_take P__law_take (defScope s__law_take) := ⟨rfl, rfl, rfl, by decide +kernel, rfl, by decide +kernel, by decide +kernel⟩
abbrev s__law_dip : Stmt := top 58
abbrev N__law_dip : List Str := ["_law_script", "_law_k", "_law_cell"]
abbrev P__law_dip : List Str := ["_law_script", "_law_k"]
theorem sc__law_dip : FnScope N__law_dip P__law_dip (defScope s__law_dip) := ⟨rfl, rfl, rfl, by decide +kernel, rfl, by decide +kernel, by decide +kernel⟩
abbrev s__law_folded : Stmt := top 60
abbrev N__law_folded : List Str := ["_law_script", "_law_size", "_law_cells", "_law_k", "_law_cell"]
abbrev P__law_folded : List Str := ["_law_script", "_law_size"]
theorem sc__law_folded : FnScope N__law_folded P__law_folded (defScope s__law_folded) := ⟨rfl, rfl, rfl, by decide +kernel, rfl, by decide +kernel, by decide +kernel⟩
section
variable {P : Program} {w : World} {K : PySem.W.Frag} {mg : Str → Option Value} {base : Heap}
theorem ok_take (D : Dd K mg "_law_take" s__law_take P__law_take) : C8.Cal P w K mg base 1 "_law_take" spTake [] := by
  refine D.cal sc__law_take (fun vs H Q E h => ?_) (fun f cdv A outer s H vs Q E hr h => ?_)
  · obtain ⟨a, many, n, b, rfl, _⟩ := h
    rfl
  · obtain ⟨a, many, n, b, rfl, ha, ⟨b0, b1, b2, rfl, h0, h1, h1', h2, h2'⟩, hn, hm, hm', k⟩ := h
    refine ⟨_, (pss_cons (ps_if (pt_cmpR op_gt (pe_ix ix_list (pv 0) pe_int (fun _ _ => rfl)) pe_int (nomark _))
          (pss_cons (ps_set (i := 2) sc__law_take.nd rfl (Or.inl rfl) (pe_op op_mod (pe_ix ix_list (pv 0) pe_int (fun _ _ => rfl)) (pv 1)))
        (pss_cons (ps_asg (pe_op op_fdiv (pe_ix ix_list (pv 0) pe_int (fun _ _ => rfl)) (pv 1)) (pg_sub (pv 0) pe_int set_list))
        (pss_one (ps_ret (pv 2)))))
          pss_nil)
        (pss_cons (ps_asg (pe_op op_add (pe_ix ix_list (pv 0) pe_int (fun _ _ => rfl)) pe_int) (pg_sub (pv 0) pe_int set_list))
        (pss_cons (ps_set (i := 3) sc__law_take.nd rfl (Or.inl rfl) (pe_op op_mod (pe_op op_pow (pe_op op_add (pe_ix ix_list (pv 0) pe_int (fun _ _ => rfl)) (pe_op op_mul pe_int (pe_ix ix_list (pv 0) pe_int (fun _ _ => rfl)))) pe_int) pe_int))
        (pss_cons (ps_set (i := 4) sc__law_take.nd rfl (Or.inl rfl) (pe_op op_mod (pe_op op_mul (pe_op op_add (pe_op op_add (pv 3) (pe_ix ix_list (pv 0) pe_int (fun _ _ => rfl))) (pe_op op_fdiv (pe_ix ix_list (pv 0) pe_int (fun _ _ => rfl)) pe_int)) (pe_op op_add (pe_op op_add (pe_op op_mod (pv 3) pe_int) pe_int) (pe_ix ix_list (pv 0) pe_int (fun _ _ => rfl)))) pe_int))
        (pss_one (ps_ret (pe_op op_mod (pe_op op_fdiv (pe_op op_mod (pe_op op_add (pe_op op_mul (pv 4) pe_int) (pv 3)) pe_int) pe_int) (pv 1)))))))), ?_⟩
    have hL : SqL K H a [.int b0, .int b1, .int b2] := SqL.of ha
    refine ⟨_, rfl, a, _, 0, .int b0, rfl, rfl, hL, atI_nat (j := 0) rfl, _, _, rfl, rfl, _, rfl, ite2 (fun e => ?_) (fun e => ?_)⟩
    · have e0 : 0 < b0 := of_decide_eq_true e
      refine ⟨_, rfl, a, _, 0, .int b0, rfl, rfl, hL, atI_nat (j := 0) rfl, .int many, rfl, _, _, rfl, rfl, hm, ?_⟩
      refine ⟨_, rfl, a, _, 0, .int b0, rfl, rfl, hL, atI_nat (j := 0) rfl, .int many, rfl, _, _, rfl, rfl, ⟨hm, hm'⟩, ?_⟩
      refine ⟨_, rfl, a, _, 0, 0, rfl, rfl, ha, rfl, _, rfl, ?_⟩
      refine k (b0 % many) _ (Int.emod_nonneg _ (by omega)) (Int.emod_lt_of_pos _ hm) ⟨b0 / many, b1, b2, rfl, Int.ediv_nonneg h0 (by omega), h1, h1', h2, by omega⟩
    · refine ⟨_, rfl, a, _, 2, .int b2, rfl, rfl, hL, atI_nat (j := 2) rfl, _, _, rfl, rfl, _, rfl, a, _, 2, 2, rfl, rfl, ha, rfl, ?_⟩
      have hL2 : SqL K (upd H a (.lst [.int b0, .int b1, .int (b2 + 1)])) a [.int b0, .int b1, .int (b2 + 1)] := SqL.of upd_same
      refine ⟨_, rfl, a, _, 1, .int b1, rfl, rfl, hL2, atI_nat (j := 1) rfl, _, rfl, a, _, 2, .int (b2 + 1), rfl, rfl, hL2, atI_nat (j := 2) rfl, _, _, rfl, rfl, .inl ⟨by decide, by decide⟩, _, _, rfl, rfl, _, _, rfl, rfl,
        ⟨by decide, by decide, by omega⟩, _, _, rfl, rfl, (by show (0 : Int) < _; decide), ?_⟩
      have q : (b1 + 39373 * (b2 + 1)) ^ Int.toNat 5 % 2147483647 = (b1 + 39373 * (b2 + 1)) ^ Int.toNat 5 % 2147483647 := rfl
      generalize (b1 + 39373 * (b2 + 1)) ^ Int.toNat 5 = w5
      have g1 : 0 ≤ w5 % 2147483647 := Int.emod_nonneg _ (by decide)
      have g2 : w5 % 2147483647 < 2147483647 := Int.emod_lt_of_pos _ (by decide)
      have g3 : 0 ≤ b1 / 1000003 := Int.ediv_nonneg h1 (by decide)
      have g4 : b1 / 1000003 ≤ b1 := Int.ediv_le_self _ h1
      have g5 : 0 ≤ w5 % 2147483647 % 40009 := Int.emod_nonneg _ (by decide)
      have g6 : w5 % 2147483647 % 40009 < 40009 := Int.emod_lt_of_pos _ (by decide)
      refine ⟨_, rfl, _, rfl, a, _, 2, .int (b2 + 1), rfl, rfl, hL2, atI_nat (j := 2) rfl, _, _, rfl, rfl, _, rfl, a, _, 1, .int b1, rfl, rfl, hL2, atI_nat (j := 1) rfl, _, _, rfl, rfl, ⟨by decide, by decide⟩, _, _, rfl, rfl,
        _, rfl, _, _, rfl, rfl, (by show (0 : Int) < _; decide), _, _, rfl, rfl, _, rfl, a, _, 2, .int (b2 + 1), rfl, rfl, hL2, atI_nat (j := 2) rfl, _, _, rfl, rfl, _, _, rfl, rfl, .inl ⟨by omega, by omega⟩, _, _, rfl, rfl, (by show (0 : Int) < _; decide), ?_⟩
      generalize (w5 % 2147483647 + (b2 + 1) + b1 / 1000003) * (w5 % 2147483647 % 40009 + 7 + (b2 + 1)) = w6
      refine ⟨_, rfl, _, _, rfl, rfl, .inr ⟨by decide, by decide⟩, _, rfl, _, _, rfl, rfl, _, _, rfl, rfl, (by show (0 : Int) < _; decide), _, _, rfl, rfl, ⟨by decide, by decide⟩, .int many, rfl, _, _, rfl, rfl, hm, ?_⟩
      exact k _ _ (Int.emod_nonneg _ (by omega)) (Int.emod_lt_of_pos _ hm) ⟨b0, b1, b2 + 1, rfl, h0, h1, h1', by omega, by omega⟩
theorem b01 (b : Bool) : -(2 ^ 64) < (if b = true then (1 : Int) else 0) ∧ (if b = true then (1 : Int) else 0) < 2 ^ 64 := by cases b <;> decide
theorem dip_b0 (c : Int) (b : Bool) : 0 ≤ (if c < 0 then -c else c) * (if b = true then 1 else 0) := by
  cases b with
  | false => simp
  | true =>
    rw [if_pos rfl, Int.mul_one]
    split <;> omega
theorem ok_dip (B : Bt mg) (D : Dd K mg "_law_dip" s__law_dip P__law_dip) : C8.Cal P w K mg base 1 "_law_dip" (spDip K) [] := by
  refine D.cal sc__law_dip (fun vs H Q E h => ?_) (fun f cdv A outer s H vs Q E hr h => ?_)
  · obtain ⟨a, k, ns, rfl, _⟩ := h
    rfl
  · obtain ⟨a, k, ns, rfl, hS, hk, q⟩ := h
    have T := B
    refine ⟨_, (pss_cons (ps_set (i := 2) sc__law_dip.nd rfl (Or.inl rfl) (pe_ifExp (pt_cmpR op_lt (pv 1) (pe_callB call_len_seq (by rfl) T.len PySem.boot_len (pa_cons (pv 0) pa_nil)) (nomark _)) (pe_ix ix_list (pv 0) (pv 1) (fun _ _ => rfl)) pe_int))
        (pss_one (ps_ret (pe_lst (pa_cons (pe_op op_mul (pe_callB call_abs (by rfl) T.abs (by decide +kernel) (pa_cons (pv 2) pa_nil)) (pe_callTy call_int1 (by rfl) T.int (by decide +kernel) (pa_cons (pe_cmpR op_ge (pe_callB call_abs (by rfl) T.abs (by decide +kernel) (pa_cons (pv 2) pa_nil)) (pe_op op_pow pe_int pe_int) (nomark _)) pa_nil))) (pa_cons (pe_op op_add (pe_op op_add (pe_op op_mod (pv 2) pe_int) (pe_op op_mul pe_int (pv 1))) pe_int) (pa_cons pe_int pa_nil))))))), ?_⟩
    have rest : ∀ c : Int, (tRet (tLst (tCons (tOp (rI CMul fun i j => .int (i * j)) (tCB (fun xs H Q => ∃ i, xs = [.int i] ∧ Q (.int (if i < 0 then -i else i)) H) (tCons (tVar 2) tNil))
        (tCB (fun xs H Q => (∃ i, xs = [.int i] ∧ Q (.int i) H) ∨ ∃ k, xs = [.bl k] ∧ Q (.int (if k then 1 else 0)) H) (tCons (tOp (rI0 fun i j => .bl (decide (j ≤ i))) (tCB (fun xs H Q => ∃ i, xs = [.int i] ∧ Q (.int (if i < 0 then -i else i)) H) (tCons (tVar 2) tNil)) (tOp (rI CPow fun i j => .int (i ^ j.toNat)) (tC (.int 10)) (tC (.int 18)))) tNil)))
        (tCons (tOp (rI0 fun i j => .int (i + j)) (tOp (rI0 fun i j => .int (i + j)) (tOp (rI (fun _ j => 0 < j) fun i j => .int (i % j)) (tVar 2) (tC (.int 2305843009213693951))) (tOp (rI CMul fun i j => .int (i * j)) (tC (.int 39373)) (tVar 1))) (tC (.int 17))) (tCons (tC (.int 0)) tNil)))))
        { nx := fun _ H' => Q .non H', rt := Q } [some (.ref a), some (.int k), some (.int c)] H := fun c => by
      refine ⟨_, rfl, c, rfl, _, rfl, c, rfl, _, _, rfl, rfl, ⟨by decide, by decide, by decide⟩, _, _, rfl, rfl, .inr ⟨_, rfl, ?_⟩⟩
      refine ⟨_, _, rfl, rfl, .inr (b01 _), ?_⟩
      refine ⟨_, rfl, _, _, rfl, rfl, (by show (0 : Int) < _; decide), _, rfl, _, _, rfl, rfl, .inl ⟨by decide, by decide⟩, _, _, rfl, rfl, _, _, rfl, rfl, ?_⟩
      refine ⟨by show 3 ≤ sizeLine; decide, fun p hp => q p _ hp ⟨_, _, 0, rfl, dip_b0 c _, ?_, ?_, Int.le_refl _, Int.le_refl _⟩⟩
      · have := Int.emod_nonneg c (show (2305843009213693951 : Int) ≠ 0 by decide)
        omega
      · have := Int.emod_lt_of_pos c (show (0 : Int) < 2305843009213693951 by decide)
        omega
    refine ⟨_, rfl, _, rfl, a, _, rfl, .inl hS, _, _, rfl, rfl, _, rfl, ite2 (fun e => ?_) (fun e => ?_)⟩
    · have hlt : k < ns.length := by
        have := of_decide_eq_true e
        rw [List.length_map] at this
        omega
      have g : (ns.map V.int)[k]? = some (.int ns[k]) := by
        rw [List.getElem?_map, List.getElem?_eq_getElem hlt]
        rfl
      exact ⟨_, rfl, _, rfl, a, _, k, .int ns[k], rfl, rfl, hS, atI_nat g, rest _⟩
    · exact rest 0
theorem ixN_nat {n j : Nat} (h : j < n) : ixN n (j : Int) = some j := by
  unfold ixN
  rw [if_pos (by omega), if_pos (by omega)]
  simp
theorem ok_folded (B : Bt mg) (D : Dd K mg "_law_folded" s__law_folded P__law_folded) : C8.Cal P w K mg base 1 "_law_folded" (spFold K) [] := by
  refine D.cal sc__law_folded (fun vs H Q E h => ?_) (fun f cdv A outer s H vs Q E hr h => ?_)
  · obtain ⟨a, size, ns, rfl, _⟩ := h
    rfl
  · obtain ⟨a, size, ns, rfl, hS, hl, h1, h8, q⟩ := h
    have T := B
    refine ⟨_, (pss_cons (ps_set (i := 2) sc__law_folded.nd rfl (Or.inl rfl) (pe_callTy call_list_of (by rfl) T.list (by decide +kernel) (pa_cons (pe_slice sl_list (pv 0) po_none (po_some (pv 1))) pa_nil)))
        (pss_cons (ps_for PassesOwn.never rfl (pi_enum (by rfl) T.enumerate (pa_cons (pe_slice sl_list (pv 0) (po_some (pv 1)) (po_some pe_int)) pa_nil)) (pg_tup rfl (pgs_cons (pg_name (i := 3) sc__law_folded.nd rfl (Or.inl rfl)) (pgs_cons (pg_name (i := 4) sc__law_folded.nd rfl (Or.inl rfl)) pgs_nil)))
          (pss_one (ps_asg (pe_op op_add (pe_ix ix_list (pv 2) (pe_op op_mod (pv 3) (pv 1)) (fun _ _ => rfl)) (pe_op op_mul (pv 4) (pe_op op_add (pv 3) pe_int))) (pg_sub (pv 2) (pe_op op_mod (pv 3) (pv 1)) set_list))))
        (pss_one (ps_ret (pv 2))))), ?_⟩
    -- cells = list(script[:size])
    refine ⟨_, rfl, _, rfl, _, rfl, a, _, rfl, hS, fun c1 n1 => ⟨c1, _, rfl, .inl (SqL.of upd_same), fun l nl => ?_⟩⟩
    have s1 : Same H (upd H c1 (.lst (cutV (ns.map V.int) none (some (size : Int))))) := same_upd n1
    have s2 := s1.trans (same_upd (o := .lst (cutV (ns.map V.int) none (some (size : Int)))) nl)
    -- enumerate(script[size:63])
    refine ⟨_, rfl, _, rfl, _, rfl, _, rfl, a, _, rfl, s2.seq hS, fun c2 n2 => ⟨c2, _, rfl, SqL.of upd_same, ?_⟩⟩
    have nlc : l ≠ c2 := fun e => by
      rw [e] at n2
      rw [← e, upd_same] at n2
      cases n2
    refine for_it walk_enum (fun i σ H3 => ∃ y3 y4, ∃ ms : List Int, σ = [some (.ref a), some (.int size), some (.ref l), y3, y4] ∧ Same H H3 ∧ H3 c2 = some (.lst (cutV (ns.map V.int) (some (size : Int)) (some 63))) ∧ H3 l = some (.lst (ms.map V.int)) ∧ ms.length = min size ns.length)
      ⟨none, none, ns.take size, rfl, s2.trans (same_upd n2), upd_same, ?_, by rw [List.length_take]⟩ (fun i σ H3 _ ⟨_, _, _, _, _, hc, _⟩ => SqL.of hc) ?_ ?_
    · rw [upd_ne nlc, upd_same, cut_to]
    · rintro i v σ H3 H4 hi ⟨y3, y4, ms, rfl, sm, hc, hm, hml⟩ ⟨T, x, y, rfl, nT, rfl, ex, ey⟩
      cases ex
      obtain ⟨rs, ers, _⟩ := cut_ints ns (some (size : Int)) (some 63)
      have hsz : size ≤ ns.length := by
        apply Classical.byContradiction
        intro hh
        rw [cut_from_nil ns size (by omega)] at hi
        simp at hi
      have hms : ms.length = size := by omega
      rw [ers] at ey
      rw [ers, List.length_map] at hi
      have ey' : y = .int rs[i] := by
        replace ey : (List.map V.int rs)[i]? = some y := ey
        rw [List.getElem?_map, List.getElem?_eq_getElem hi] at ey
        exact (Option.some.inj ey).symm
      subst ey'
      have hi63 : i < 63 := by omega
      have nTl : l ≠ T := ne_of_none hm nT
      have nTc : c2 ≠ T := ne_of_none hc nT
      have hm' : (upd H3 T (.tup [.int (i : Nat), .int rs[i]])) l = some (.lst (ms.map V.int)) := by
        rw [upd_ne nTl]
        exact hm
      have hj : i % size < ms.length := by
        rw [hms]
        exact Nat.mod_lt _ (by omega)
      have g : (ms.map V.int)[i % size]? = some (.int ms[i % size]) := by
        rw [List.getElem?_map, List.getElem?_eq_getElem hj]
        rfl
      have ei : ((i : Nat) : Int) % ((size : Nat) : Int) = ((i % size : Nat) : Int) := by omega
      refine ⟨T, _, rfl, SqT.of upd_same, rfl, _, _, rfl, _, _, rfl, rfl, ?_⟩
      refine ⟨_, rfl, _, rfl, _, rfl, _, _, rfl, rfl, (by show (0 : Int) < _; omega), l, _, _, .int ms[i % size], rfl, rfl, SqL.of hm', ?_, ?_⟩
      · rw [ei]
        exact atI_nat g
      refine ⟨_, rfl, _, rfl, _, _, rfl, rfl, _, _, rfl, rfl, .inr ⟨by omega, by omega⟩, _, _, rfl, rfl, _, rfl, _, rfl, _, rfl, _, _, rfl, rfl, (by show (0 : Int) < _; omega), l, _, _, i % size, rfl, rfl, hm', ?_, ?_⟩
      · rw [ei, List.length_map]
        exact ixN_nat hj
      · refine ⟨_, _, ms.set (i % size) (ms[i % size] + rs[i] * ((i : Int) + 2)), rfl, fun b z e => ?_, ?_, ?_, by rw [List.length_set]; exact hml⟩
        · have nb : b ≠ l := by
            intro eb
            rw [eb] at e
            have e2 := s1 _ _ e
            rw [e2] at nl
            cases nl
          rw [upd_ne nb]
          exact same_upd nT _ _ (sm _ _ e)
        · rw [upd_ne nlc.symm, upd_ne nTc]
          exact hc
        · rw [upd_same, List.map_set]
    · rintro σ H3 ⟨y3, y4, ms, rfl, sm, hc, hm, hml⟩
      exact ⟨_, rfl, q H3 l ms sm (s1.free nl) hm (by omega)⟩
end
/-! ### own_copy, of data of any depth -/
abbrev s_own_copy : Stmt := top 8
abbrev N_own_copy : List Str := ["thing", "copied", "part"]
abbrev P_own_copy : List Str := ["thing"]
theorem sc_own_copy : FnScope N_own_copy P_own_copy (defScope s_own_copy) := ⟨rfl, rfl, rfl, by decide +kernel, rfl, by decide +kernel, by decide +kernel⟩
structure Ot (mg : Str → Option Value) : Prop where
  isinstance : mg "isinstance" = none
  list : mg "list" = none
  tuple : mg "tuple" = none
/-- data so deep at most, no list or tuple of more than 500 -/
inductive Sm : Nat → PyData → Prop where
  | non (n : Nat) : Sm n .none
  | bl (n : Nat) (b : Bool) : Sm n (.bool b)
  | int (n : Nat) (i : Int) : Sm n (.int i)
  | str (n : Nat) (x : Str) : Sm n (.str x)
  | lst (n : Nat) {ds : List PyData} (h : ds.length ≤ 500) (a : ∀ d ∈ ds, Sm n d) : Sm (n + 1) (.list ds)
  | tup (n : Nat) {ds : List PyData} (h : ds.length ≤ 500) (a : ∀ d ∈ ds, Sm n d) : Sm (n + 1) (.tuple ds)
section
variable {K : PySem.W.Frag} {H H' : Hp}
theorem Same.seqL {a : Addr} {xs : List V} (s : Same H H') (h : SqL K H a xs) : SqL K H' a xs := by
  rcases h with (h | ⟨o, h⟩) | h
  · exact .inl (.inl (s _ _ h))
  · exact .inl (.inr ⟨o, s _ _ h⟩)
  · exact .inr h
theorem Same.seqT {a : Addr} {xs : List V} (s : Same H H') (h : SqT K H a xs) : SqT K H' a xs := by
  rcases h with (h | ⟨o, h⟩) | h
  · exact .inl (.inl (s _ _ h))
  · exact .inl (.inr ⟨o, s _ _ h⟩)
  · exact .inr h
mutual
theorem dp_same (s : Same H H') : ∀ {v : V} {d : PyData}, Dp K H v d → Dp K H' v d
  | _, _, .non => .non
  | _, _, .bl b => .bl b
  | _, _, .int i => .int i
  | _, _, .str x => .str x
  | _, _, .lst h a => .lst (Same.seqL s h) (dpAll_same s a)
  | _, _, .tup h a => .tup (Same.seqT s h) (dpAll_same s a)
theorem dpAll_same (s : Same H H') : ∀ {vs : List V} {ds : List PyData}, DpAll K H vs ds → DpAll K H' vs ds
  | _, _, .nil => .nil
  | _, _, .cons h a => .cons (dp_same s h) (dpAll_same s a)
end
theorem dpAll_len : ∀ {vs : List V} {ds : List PyData}, DpAll K H vs ds → vs.length = ds.length
  | _, _, .nil => rfl
  | _, _, .cons _ a => by
    rw [List.length_cons, List.length_cons, dpAll_len a]
theorem dpAll_at : ∀ {vs : List V} {ds : List PyData}, DpAll K H vs ds → ∀ {i : Nat} {v : V}, vs[i]? = some v → ∃ d, ds[i]? = some d ∧ Dp K H v d
  | _, _, .cons h _, 0, _, e => ⟨_, rfl, by rw [← Option.some.inj e]; exact h⟩
  | _, _, .cons _ a, i + 1, _, e => dpAll_at a (i := i) e
theorem dpAll_snoc : ∀ {vs : List V} {ds : List PyData}, DpAll K H vs ds → ∀ {v : V} {d : PyData}, Dp K H v d → DpAll K H (vs ++ [v]) (ds ++ [d])
  | _, _, .nil, _, _, h => .cons h .nil
  | _, _, .cons h0 a, _, _, h => .cons h0 (dpAll_snoc a h)
theorem tyL {a : Addr} {xs : List V} (h : SqL K H a xs) : TyX K H (.ref a) (.type "list") := by
  rcases h with (h | ⟨o, h⟩) | ⟨o, its, n, l, c, _⟩
  · exact .base (.lst h)
  · exact .base (.frz h)
  · exact .kList l c
theorem tyT {a : Addr} {xs : List V} (h : SqT K H a xs) : TyX K H (.ref a) (.type "tuple") := by
  rcases h with (h | ⟨o, h⟩) | ⟨o, its, n, l, c, _⟩
  · exact .base (.tup h)
  · exact .fTuple h
  · exact .kTuple l c
theorem kitLT {t : String} {b : Bool} (h : kitB t "list" = some b) (h2 : b = false → kitB t "tuple" = some false) : PySem.W.kitAny K (.type t) [.type "list", .type "tuple"] = some b := by
  refine kitAny_cons (kit_ty h) (fun e => ?_) (fun e => e)
  rw [e]
  exact kitAny_cons (b := false) (kit_ty (h2 e)) (fun _ => kitAny_nil) (fun e => nomatch e)
end
/-- what is new in H', the address c left out -/
def Nw (H H' : Hp) : Hp := fun b => if H b = none then H' b else none
theorem Nw.sub {H H' : Hp} : Same (Nw H H') H' := fun b o e => by
  unfold Nw at e
  split at e
  · exact e
  · cases e
theorem Nw.mk {H H' : Hp} {b : Addr} {o : HO} (h : H b = none) (e : H' b = some o) : Nw H H' b = some o := by
  unfold Nw
  rw [if_pos h]
  exact e
theorem Nw.get {H H' : Hp} {b : Addr} {o : HO} (h : Nw H H' b = some o) : H b = none ∧ H' b = some o := by
  unfold Nw at h
  split at h
  · exact ⟨by assumption, h⟩
  · cases h
theorem kitLT2 {K : PySem.W.Frag} : PySem.W.kitAny K (.type "tuple") [.type "list", .type "tuple"] = some true :=
  kitAny_cons (b := false) (kit_ty (by decide +kernel)) (fun _ => kitAny_cons (b := true) (kit_ty (by decide +kernel)) (fun e => nomatch e) (fun _ => rfl)) (fun e => nomatch e)
def spOwnD (K : PySem.W.Frag) (n : Nat) : Sp := fun vs H Q _ => ∃ (x : V) (d : PyData), vs = [x] ∧ Dp K H x d ∧ Sm n d ∧ ∀ (H' : Hp) (y : V), Same H H' → Dp K (Nw H H') y d → Q y H'
section
variable {P : Program} {w : World} {K : PySem.W.Frag} {mg : Str → Option Value} {base : Heap}
theorem own_flat (T : Ot mg) (f : Addr) (cdv : Value) (A : Around) (outer : List Env) (s : Shared) (H : Hp) (Q : VK) (E : XK) {x : V} {t : String} (ty : ∀ H', TyX K H' x (.type t)) (k1 : kitB t "list" = some false) (k2 : kitB t "tuple" = some false) (q : ∀ H', Same H H' → Q x H') :
    ∃ t, PSs (cxOf CX0 P w K mg base N_own_copy "own_copy" (defScope s_own_copy) f cdv A outer s H E).nox (defBody s_own_copy) t ∧ t { nx := fun _ H' => Q .non H', rt := Q } (start N_own_copy [x]) H := by
  refine ⟨_, (pss_cons (ps_if (pt_not (pt_val (pe_callB call_isiT (by rfl) T.isinstance (by decide +kernel) (pa_cons (pv 0) (pa_cons (pe_tup (pa_cons (pe_bltn (v := .ty "list") rfl T.list (by decide +kernel) rfl) (pa_cons (pe_bltn (v := .ty "tuple") rfl T.tuple (by decide +kernel) rfl) pa_nil))) pa_nil)))))
      (pss_one (ps_ret (pv 0))) pss_nil) (pss_cons ps_never (pss_cons ps_never (pss_cons ps_never (pss_one ps_never))))), ?_⟩
  refine ⟨_, rfl, by show 2 ≤ sizeLine; decide, fun tp nt => ?_⟩
  refine ⟨x, tp, _, .type t, [.type "list", .type "tuple"], false, rfl, upd_same, .cons (.ty "list") (.cons (.ty "tuple") .nil), ty _, kitLT k1 (fun _ => k2), _, rfl, ?_⟩
  exact iteT ⟨_, rfl, q _ (same_upd nt)⟩
theorem ok_ownD (T : Ot mg) (D : Dd K mg "own_copy" s_own_copy P_own_copy) : ∀ n, C8.Cal P w K mg base (n + 1) "own_copy" (spOwnD K n) [] := by
  intro n
  induction n with
  | zero =>
    refine D.cal sc_own_copy (fun vs H Q E h => ?_) (fun f cdv A outer s H vs Q E hr h => ?_)
    · obtain ⟨x, d, rfl, _⟩ := h
      rfl
    · obtain ⟨x, d, rfl, hx, hs, q⟩ := h
      cases hs with
      | non => cases hx; exact own_flat T f cdv A outer s H Q E (fun _ => .base .non) (by decide +kernel) (by decide +kernel) fun H' e => q H' _ e .non
      | bl _ b => cases hx; exact own_flat T f cdv A outer s H Q E (fun _ => .base (.bl b)) (by decide +kernel) (by decide +kernel) fun H' e => q H' _ e (.bl b)
      | int _ i => cases hx; exact own_flat T f cdv A outer s H Q E (fun _ => .base (.int i)) (by decide +kernel) (by decide +kernel) fun H' e => q H' _ e (.int i)
      | str _ z => cases hx; exact own_flat T f cdv A outer s H Q E (fun _ => .base (.str z)) (by decide +kernel) (by decide +kernel) fun H' e => q H' _ e (.str z)
  | succ n cown_copy =>
    refine D.cal sc_own_copy (fun vs H Q E h => ?_) (fun f cdv A outer s H vs Q E hr h => ?_)
    · obtain ⟨x, d, rfl, _⟩ := h
      rfl
    · obtain ⟨x, d, rfl, hx, hs, q⟩ := h
      cases hs with
      | non => cases hx; exact own_flat T f cdv A outer s H Q E (fun _ => .base .non) (by decide +kernel) (by decide +kernel) fun H' e => q H' _ e .non
      | bl _ b => cases hx; exact own_flat T f cdv A outer s H Q E (fun _ => .base (.bl b)) (by decide +kernel) (by decide +kernel) fun H' e => q H' _ e (.bl b)
      | int _ i => cases hx; exact own_flat T f cdv A outer s H Q E (fun _ => .base (.int i)) (by decide +kernel) (by decide +kernel) fun H' e => q H' _ e (.int i)
      | str _ z => cases hx; exact own_flat T f cdv A outer s H Q E (fun _ => .base (.str z)) (by decide +kernel) (by decide +kernel) fun H' e => q H' _ e (.str z)
      | lst _ hlen hall =>
        rename_i ds
        cases hx with
        | lst hS hd =>
          rename_i a xs
          refine ⟨_, (pss_cons (ps_if (pt_not (pt_val (pe_callB call_isiT (by rfl) T.isinstance (by decide +kernel) (pa_cons (pv 0) (pa_cons (pe_tup (pa_cons (pe_bltn (v := .ty "list") rfl T.list (by decide +kernel) rfl) (pa_cons (pe_bltn (v := .ty "tuple") rfl T.tuple (by decide +kernel) rfl) pa_nil))) pa_nil)))))
                (pss_one (ps_ret (pv 0)))
                pss_nil)
              (pss_cons (ps_set (i := 1) sc_own_copy.nd rfl (Or.inl rfl) (pe_lst pa_nil))
              (pss_cons (ps_for PassesOwn.never rfl (pi_list (pv 0)) (pg_name (i := 2) sc_own_copy.nd rfl (Or.inl rfl))
                (pss_one (ps_expr (pe_bm PySem.F.plainAttrs_list PySem.F.slot_list_append PySem.F.type_list_append mt_append (pv 1) (pa_cons (C8.pe_c cown_copy hr (by omega) (by rfl) (pa_cons (pv 2) pa_nil)) pa_nil)))))
              (pss_cons (ps_if (pt_val (pe_callB call_isi (by rfl) T.isinstance (by decide +kernel) (pa_cons (pv 0) (pa_cons (pe_bltn (v := .ty "tuple") rfl T.tuple (by decide +kernel) rfl) pa_nil))))
                (pss_one (ps_ret (pe_callTy call_tuple_of (by rfl) T.tuple (by decide +kernel) (pa_cons (pv 1) pa_nil))))
                pss_nil)
              (pss_one (ps_ret (pv 1))))))), ?_⟩
          have lx := dpAll_len hd
          refine ⟨_, rfl, by show 2 ≤ sizeLine; decide, fun tp nt => ?_⟩
          have s1 := same_upd (o := .tup [.ty "list", .ty "tuple"]) nt
          refine ⟨.ref a, tp, _, .type "list", [.type "list", .type "tuple"], true, rfl, upd_same, .cons (.ty "list") (.cons (.ty "tuple") .nil), tyL (Same.seqL s1 hS), kitLT (by decide +kernel) (fun e => nomatch e), _, rfl, iteF ?_⟩
          refine ⟨by show 0 ≤ sizeLine; decide, fun c nc => ?_⟩
          have s2 := s1.trans (same_upd (o := .lst []) nc)
          have nc0 : H c = none := s1.free nc
          refine ⟨_, rfl, a, rfl, ⟨_, Same.seqL s2 hS⟩, for_list (K := K) (a := a) (xs := xs) (fun i σ H3 => ∃ y2 ys, σ = [some (.ref a), some (.ref c), y2] ∧ Same H H3 ∧ H3 c = some (.lst ys) ∧ DpAll K (Nw (upd H c (.lst [])) H3) ys (ds.take i) ∧ i ≤ ds.length)
            ⟨none, [], rfl, s2, upd_same, .nil, by omega⟩ (fun i σ H3 _ ⟨_, _, _, s3, _⟩ => Same.seqL s3 hS) ?_ ?_⟩
          · rintro i x σ H3 hxi ⟨y2, ys, rfl, s3, hc, hys, hi⟩
            obtain ⟨d, hdi, hdp⟩ := dpAll_at hd hxi
            have hi2 : i < ds.length := (List.getElem?_eq_some_iff.mp hdi).1
            have ly := dpAll_len hys
            rw [List.length_take] at ly
            refine ⟨_, rfl, .inl ⟨rfl, _, SqL.of hc⟩, _, rfl, x, d, rfl, dp_same s3 hdp, hall d (List.mem_of_getElem? hdi), fun H4 y s4 hy => ?_⟩
            refine ⟨c, ys, y, rfl, rfl, s4 _ _ hc, small1000 (by omega), ?_⟩
            refine ⟨_, ys ++ [y], rfl, fun b o e => ?_, upd_same, ?_, by omega⟩
            · rw [upd_ne (ne_of_none e nc0)]
              exact s4 _ _ (s3 _ _ e)
            · rw [List.take_add_one, hdi]
              refine dpAll_snoc (dpAll_same (fun b o e => ?_) hys) (dp_same (fun b o e => ?_) hy)
              · obtain ⟨e1, e2⟩ := Nw.get e
                have nb : b ≠ c := fun z => by
                  rw [z, upd_same] at e1
                  cases e1
                exact Nw.mk e1 (by rw [upd_ne nb]; exact s4 _ _ e2)
              · obtain ⟨e1, e2⟩ := Nw.get e
                have nb : b ≠ c := fun z => by
                  rw [z, hc] at e1
                  cases e1
                exact Nw.mk (by rw [upd_ne nb]; exact s3.free e1) (by rw [upd_ne nb]; exact e2)
          · rintro σ H3 ⟨y2, ys, rfl, s3, hc, hys, _⟩
            rw [lx, List.take_length] at hys
            have toN : ∀ H5, Same H3 H5 → Same (Nw (upd H c (.lst [])) H3) (Nw H H5) := fun H5 s5 b o e => by
              obtain ⟨e1, e2⟩ := Nw.get e
              have nb : b ≠ c := fun z => by
                rw [z, upd_same] at e1
                cases e1
              rw [upd_ne nb] at e1
              exact Nw.mk e1 (s5 _ _ e2)
            refine ⟨_, rfl, .ref a, .ty "tuple", .type "list", .type "tuple", false, rfl, .ty "tuple", tyL (Same.seqL s3 hS), kit_ty (by decide +kernel), _, rfl, iteF ?_⟩
            exact ⟨_, rfl, q _ _ s3 (.lst (SqL.of (Nw.mk nc0 hc)) (dpAll_same (toN _ (Same.refl _)) hys))⟩
      | tup _ hlen hall =>
        rename_i ds
        cases hx with
        | tup hS hd =>
          rename_i a xs
          refine ⟨_, (pss_cons (ps_if (pt_not (pt_val (pe_callB call_isiT (by rfl) T.isinstance (by decide +kernel) (pa_cons (pv 0) (pa_cons (pe_tup (pa_cons (pe_bltn (v := .ty "list") rfl T.list (by decide +kernel) rfl) (pa_cons (pe_bltn (v := .ty "tuple") rfl T.tuple (by decide +kernel) rfl) pa_nil))) pa_nil)))))
                (pss_one (ps_ret (pv 0)))
                pss_nil)
              (pss_cons (ps_set (i := 1) sc_own_copy.nd rfl (Or.inl rfl) (pe_lst pa_nil))
              (pss_cons (ps_for PassesOwn.never rfl (pi_tup (pv 0)) (pg_name (i := 2) sc_own_copy.nd rfl (Or.inl rfl))
                (pss_one (ps_expr (pe_bm PySem.F.plainAttrs_list PySem.F.slot_list_append PySem.F.type_list_append mt_append (pv 1) (pa_cons (C8.pe_c cown_copy hr (by omega) (by rfl) (pa_cons (pv 2) pa_nil)) pa_nil)))))
              (pss_cons (ps_if (pt_val (pe_callB call_isi (by rfl) T.isinstance (by decide +kernel) (pa_cons (pv 0) (pa_cons (pe_bltn (v := .ty "tuple") rfl T.tuple (by decide +kernel) rfl) pa_nil))))
                (pss_one (ps_ret (pe_callTy call_tuple_of (by rfl) T.tuple (by decide +kernel) (pa_cons (pv 1) pa_nil))))
                pss_nil)
              (pss_one (ps_ret (pv 1))))))), ?_⟩
          have lx := dpAll_len hd
          refine ⟨_, rfl, by show 2 ≤ sizeLine; decide, fun tp nt => ?_⟩
          have s1 := same_upd (o := .tup [.ty "list", .ty "tuple"]) nt
          refine ⟨.ref a, tp, _, .type "tuple", [.type "list", .type "tuple"], true, rfl, upd_same, .cons (.ty "list") (.cons (.ty "tuple") .nil), tyT (Same.seqT s1 hS), kitLT2, _, rfl, iteF ?_⟩
          refine ⟨by show 0 ≤ sizeLine; decide, fun c nc => ?_⟩
          have s2 := s1.trans (same_upd (o := .lst []) nc)
          have nc0 : H c = none := s1.free nc
          refine ⟨_, rfl, a, rfl, ⟨_, Same.seqT s2 hS⟩, for_tup (K := K) (a := a) (xs := xs) (fun i σ H3 => ∃ y2 ys, σ = [some (.ref a), some (.ref c), y2] ∧ Same H H3 ∧ H3 c = some (.lst ys) ∧ DpAll K (Nw (upd H c (.lst [])) H3) ys (ds.take i) ∧ i ≤ ds.length)
            ⟨none, [], rfl, s2, upd_same, .nil, by omega⟩ (fun i σ H3 _ ⟨_, _, _, s3, _⟩ => Same.seqT s3 hS) ?_ ?_⟩
          · rintro i x σ H3 hxi ⟨y2, ys, rfl, s3, hc, hys, hi⟩
            obtain ⟨d, hdi, hdp⟩ := dpAll_at hd hxi
            have hi2 : i < ds.length := (List.getElem?_eq_some_iff.mp hdi).1
            have ly := dpAll_len hys
            rw [List.length_take] at ly
            refine ⟨_, rfl, .inl ⟨rfl, _, SqL.of hc⟩, _, rfl, x, d, rfl, dp_same s3 hdp, hall d (List.mem_of_getElem? hdi), fun H4 y s4 hy => ?_⟩
            refine ⟨c, ys, y, rfl, rfl, s4 _ _ hc, small1000 (by omega), ?_⟩
            refine ⟨_, ys ++ [y], rfl, fun b o e => ?_, upd_same, ?_, by omega⟩
            · rw [upd_ne (ne_of_none e nc0)]
              exact s4 _ _ (s3 _ _ e)
            · rw [List.take_add_one, hdi]
              refine dpAll_snoc (dpAll_same (fun b o e => ?_) hys) (dp_same (fun b o e => ?_) hy)
              · obtain ⟨e1, e2⟩ := Nw.get e
                have nb : b ≠ c := fun z => by
                  rw [z, upd_same] at e1
                  cases e1
                exact Nw.mk e1 (by rw [upd_ne nb]; exact s4 _ _ e2)
              · obtain ⟨e1, e2⟩ := Nw.get e
                have nb : b ≠ c := fun z => by
                  rw [z, hc] at e1
                  cases e1
                exact Nw.mk (by rw [upd_ne nb]; exact s3.free e1) (by rw [upd_ne nb]; exact e2)
          · rintro σ H3 ⟨y2, ys, rfl, s3, hc, hys, _⟩
            rw [lx, List.take_length] at hys
            have toN : ∀ H5, Same H3 H5 → Same (Nw (upd H c (.lst [])) H3) (Nw H H5) := fun H5 s5 b o e => by
              obtain ⟨e1, e2⟩ := Nw.get e
              have nb : b ≠ c := fun z => by
                rw [z, upd_same] at e1
                cases e1
              rw [upd_ne nb] at e1
              exact Nw.mk e1 (s5 _ _ e2)
            refine ⟨_, rfl, .ref a, .ty "tuple", .type "tuple", .type "tuple", true, rfl, .ty "tuple", tyT (Same.seqT s3 hS), kit_ty (by decide +kernel), _, rfl, iteT ?_⟩
            refine ⟨_, rfl, c, ys, rfl, .inl ⟨SqL.of hc, fun l nl => ?_⟩⟩
            exact q _ _ (s3.trans (same_upd nl)) (.tup (SqT.of (Nw.mk (s3.free nl) upd_same)) (dpAll_same (toN _ (same_upd nl)) hys))
end
/-! ### what is drawn: one of some, some in another order, numbers -/
theorem ifT {c : Bool} {A B : Prop} (h : c = true) (x : A) : if c = true then A else B := by rw [if_pos h]; exact x
theorem ifF {c : Bool} {A B : Prop} (h : c = false) (x : B) : if c = true then A else B := by rw [if_neg (by rw [h]; decide)]; exact x
theorem yesT {σ : L2.St} {H : Hp} {A B : Hp → Prop} (h : A H) : tYes σ H (fun b H3 => if b = true then A H3 else B H3) := by
  show (if true = true then A H else B H)
  exact iteT h
theorem Same.at_ {H0 H : Hp} {p : Addr} {o : HO} (s : Same H0 H) (n : H0 p = none) : Same H0 (upd H p o) := fun b x e => by
  rw [upd_ne (ne_of_none e n)]
  exact s b x e
theorem Same.new {H0 H : Hp} {p : Addr} {o : HO} (s : Same H0 H) (n : H p = none) : Same H0 (upd H p o) := s.trans (same_upd n)
theorem Same.but {H0 H H' : Hp} {a : Addr} (s : Same H0 H) (n : H0 a = none) (b : But a H H') : Same H0 H' := fun x o e => b x o (ne_of_none e n) (s x o e)
theorem BoxL.mono {n m : Nat} {b : List V} (h : BoxL n b) (l : n ≤ m) : BoxL m b := by
  obtain ⟨b0, b1, b2, e, h0, h1, h2, h3, h4⟩ := h
  exact ⟨b0, b1, b2, e, h0, h1, h2, h3, by omega⟩
theorem But.free {a b : Addr} {H H' : Hp} {o : HO} (x : But a H H') (ha : H' a = some o) (h : H' b = none) : H b = none := by
  cases e : H b with
  | none => rfl
  | some u =>
    by_cases z : b = a
    · rw [z, ha] at h
      cases h
    · rw [x b u z e] at h
      cases h
abbrev s__law_one_of : Stmt := top 61
abbrev N__law_one_of : List Str := ["_law_box", "_law_some"]
abbrev P__law_one_of : List Str := ["_law_box", "_law_some"]
theorem sc__law_one_of : FnScope N__law_one_of P__law_one_of (defScope s__law_one_of) := ⟨rfl, rfl, rfl, by decide +kernel, rfl, by decide +kernel, by decide +kernel⟩
abbrev s__law_strewn : Stmt := top 62
abbrev N__law_strewn : List Str := ["_law_box", "_law_some", "_law_found", "_law_one"]
abbrev P__law_strewn : List Str := ["_law_box", "_law_some"]
theorem sc__law_strewn : FnScope N__law_strewn P__law_strewn (defScope s__law_strewn) := ⟨rfl, rfl, rfl, by decide +kernel, rfl, by decide +kernel, by decide +kernel⟩
abbrev s__law_number : Stmt := top 64
abbrev N__law_number : List Str := ["_law_box"]
abbrev P__law_number : List Str := ["_law_box"]
theorem sc__law_number : FnScope N__law_number P__law_number (defScope s__law_number) := ⟨rfl, rfl, rfl, by decide +kernel, rfl, by decide +kernel, by decide +kernel⟩
def spOneOf (K : PySem.W.Frag) : Sp := fun vs H Q _ => ∃ (a sl : Addr) (m : Nat) (b xs : List V), vs = [.ref a, .ref sl] ∧ H a = some (.lst b) ∧ BoxL m b ∧ m < 900000 ∧ SqL K H sl xs ∧ sl ≠ a ∧ 0 < xs.length ∧ xs.length ≤ 1000 ∧
  ∀ (i : Nat) (v : V) (b' : List V), xs[i]? = some v → BoxL (m + 1) b' → Q v (upd H a (.lst b'))
def spStrewn (K : PySem.W.Frag) : Sp := fun vs H Q _ => ∃ (a sl : Addr) (m : Nat) (b xs : List V), vs = [.ref a, .ref sl] ∧ H a = some (.lst b) ∧ BoxL m b ∧ m + xs.length < 900000 ∧ SqL K H sl xs ∧ sl ≠ a ∧ xs.length ≤ 100000 ∧
  ∀ (H' : Hp) (l : Addr) (ys b' : List V), But a H H' → H l = none → H' l = some (.lst ys) → ys.Perm xs → H' a = some (.lst b') → BoxL (m + xs.length) b' → Q (.ref l) H'
def spNumber : Sp := fun vs H Q _ => ∃ (a : Addr) (m : Nat) (b : List V), vs = [.ref a] ∧ H a = some (.lst b) ∧ BoxL m b ∧ m + 4 < 900000 ∧
  ∀ (H' : Hp) (r : Int) (b' : List V), But a H H' → H' a = some (.lst b') → BoxL (m + 4) b' → 0 ≤ r → r < 1000000 → Q (.int r) H'
section
variable {P : Program} {w : World} {K : PySem.W.Frag} {mg : Str → Option Value} {base : Heap}
theorem ok_one_of (T : Bt mg) (c_law_take : C8.Cal P w K mg base 1 "_law_take" spTake []) (D : Dd K mg "_law_one_of" s__law_one_of P__law_one_of) : C8.Cal P w K mg base 2 "_law_one_of" (spOneOf K) [] := by
  refine D.cal sc__law_one_of (fun vs H Q E h => ?_) (fun f cdv A outer s H vs Q E hr h => ?_)
  · obtain ⟨a, sl, m, b, xs, rfl, _⟩ := h
    rfl
  · obtain ⟨a, sl, m, b, xs, rfl, ha, hB, hm, hS, ns, h0, h1, q⟩ := h
    refine ⟨_, (pss_one (ps_ret (pe_ix ix_list (pv 1) (C8.pe_c c_law_take hr (by decide) (by rfl) (pa_cons (pv 0) (pa_cons (pe_callB call_len_seq (by rfl) T.len PySem.boot_len (pa_cons (pv 1) pa_nil)) pa_nil))) (fun _ _ => rfl)))), ?_⟩
    refine ⟨_, rfl, _, rfl, _, rfl, sl, xs, rfl, .inl hS, a, xs.length, m, b, rfl, ha, hB, by omega, by omega, by omega, fun r b' r0 r1 hB' => ?_⟩
    obtain ⟨i, rfl⟩ : ∃ i : Nat, r = (i : Int) := ⟨r.toNat, by omega⟩
    have hi : i < xs.length := by omega
    exact ⟨sl, xs, _, xs[i], rfl, rfl, But.seq (But.upd (But.refl a H)) ns hS, atI_nat (j := i) (by simp [hi]), q i _ b' (by simp [hi]) hB'⟩
theorem ok_strewn (T : Bt mg) (c_law_take : C8.Cal P w K mg base 1 "_law_take" spTake []) (D : Dd K mg "_law_strewn" s__law_strewn P__law_strewn) : C8.Cal P w K mg base 2 "_law_strewn" (spStrewn K) [] := by
  refine D.cal sc__law_strewn (fun vs H Q E h => ?_) (fun f cdv A outer s H vs Q E hr h => ?_)
  · obtain ⟨a, sl, m, b, xs, rfl, _⟩ := h
    rfl
  · obtain ⟨a, sl, m, b, xs, rfl, ha, hB, hm, hS, ns, h1, q⟩ := h
    refine ⟨_, (pss_cons (ps_set (i := 2) sc__law_strewn.nd rfl (Or.inl rfl) (pe_lst pa_nil))
        (pss_cons (ps_for PassesOwn.never rfl (pi_list (pv 1)) (pg_name (i := 3) sc__law_strewn.nd rfl (Or.inl rfl))
          (pss_one (ps_expr (pe_bm PySem.F.plainAttrs_list PySem.F.slot_list_insert PySem.F.type_list_insert mt_insert (pv 2) (pa_cons (C8.pe_c c_law_take hr (by decide) (by rfl) (pa_cons (pv 0) (pa_cons (pe_op op_add (pe_callB call_len_seq (by rfl) T.len PySem.boot_len (pa_cons (pv 2) pa_nil)) pe_int) pa_nil))) (pa_cons (pv 3) pa_nil))))))
        (pss_one (ps_ret (pv 2))))), ?_⟩
    refine ⟨by show 0 ≤ sizeLine; decide, fun l nl => ?_⟩
    have nla : a ≠ l := ne_of_none ha nl
    have s1 := same_upd (o := .lst []) nl
    refine ⟨_, rfl, sl, rfl, ⟨_, (But.seq (a := a) (But.of s1) ns hS)⟩, for_list (K := K) (a := sl) (xs := xs) (fun i σ H3 => ∃ y ys b', σ = [some (.ref a), some (.ref sl), some (.ref l), y] ∧ But a H H3 ∧ H3 l = some (.lst ys) ∧ ys.Perm (xs.take i) ∧ H3 a = some (.lst b') ∧ BoxL (m + i) b' ∧ SqL K H3 sl xs ∧ i ≤ xs.length)
      ⟨none, [], b, rfl, But.of s1, upd_same, .nil, s1 _ _ ha, hB, (But.seq (a := a) (But.of s1) ns hS), Nat.zero_le _⟩ (fun i σ H3 _ ⟨_, _, _, _, _, _, _, _, _, h, _⟩ => h) ?_ ?_⟩
    · rintro i x σ H3 hx ⟨y, ys, b', rfl, bt, hl, hp, hb', hB', hS3, hi⟩
      have hi2 : i < xs.length := (List.getElem?_eq_some_iff.mp hx).1
      have ly : ys.length = i := by
        rw [hp.length_eq, List.length_take]
        omega
      refine ⟨_, rfl, .inl ⟨rfl, _, SqL.of hl⟩, _, rfl, _, rfl, l, ys, rfl, .inl (SqL.of hl), _, _, rfl, rfl, a, _, _, b', rfl, hb', hB', by omega, by omega, by omega, fun r b2 r0 r1 hB2 => ?_⟩
      have hl2 : (upd H3 a (.lst b2)) l = some (.lst ys) := by
        rw [upd_ne nla.symm]
        exact hl
      refine ⟨_, rfl, l, ys, r, x, rfl, rfl, hl2, by rw [ly]; exact Nat.lt_of_le_of_lt (Nat.le_of_lt hi2) (Nat.lt_of_le_of_lt h1 (by decide)), r0, by omega, ?_⟩
      have bt2 : But a H (upd (upd H3 a (.lst b2)) l (.lst (ys.take r.toNat ++ [x] ++ ys.drop r.toNat))) := fun c o nc hc => by
        rw [upd_ne (ne_of_none hc nl), upd_ne nc]
        exact bt _ _ nc hc
      refine ⟨_, _, b2, rfl, bt2, upd_same, ?_, by rw [upd_ne nla, upd_same], hB2, But.seq bt2 ns hS, by omega⟩
      rw [List.take_add_one, hx]
      refine List.Perm.trans ?_ (List.Perm.append hp (List.Perm.refl [x]))
      rw [List.append_assoc]
      refine List.Perm.trans (List.Perm.append_left _ List.perm_append_comm) ?_
      rw [← List.append_assoc, List.take_append_drop]
    · rintro σ H3 ⟨y, ys, b', rfl, bt, hl, hp, hb', hB', hS3, hi⟩
      rw [List.take_length] at hp
      exact ⟨_, rfl, q _ l ys b' bt nl hl hp hb' hB'⟩
theorem ok_number (c_law_take : C8.Cal P w K mg base 1 "_law_take" spTake []) (D : Dd K mg "_law_number" s__law_number P__law_number) : C8.Cal P w K mg base 2 "_law_number" spNumber [] := by
  refine D.cal sc__law_number (fun vs H Q E h => ?_) (fun f cdv A outer s H vs Q E hr h => ?_)
  · obtain ⟨a, m, b, rfl, _⟩ := h
    rfl
  · obtain ⟨a, m, b, rfl, ha, hB, hm, q⟩ := h
    refine ⟨_, (pss_one (ps_ret (pe_ix ix_list (pe_lst (pa_cons (C8.pe_c c_law_take hr (by decide) (by rfl) (pa_cons (pv 0) (pa_cons pe_int pa_nil))) (pa_cons (C8.pe_c c_law_take hr (by decide) (by rfl) (pa_cons (pv 0) (pa_cons pe_int pa_nil))) (pa_cons (C8.pe_c c_law_take hr (by decide) (by rfl) (pa_cons (pv 0) (pa_cons (pe_op op_pow pe_int pe_int) pa_nil))) pa_nil)))) (C8.pe_c c_law_take hr (by decide) (by rfl) (pa_cons (pv 0) (pa_cons pe_int pa_nil))) (fun _ _ => rfl)))), ?_⟩
    refine ⟨_, rfl, a, 4, m, b, rfl, ha, hB, by omega, by decide, by decide, fun r1 b1 r10 r11 hB1 => ?_⟩
    refine ⟨_, rfl, a, 30, m + 1, b1, rfl, upd_same, hB1, by omega, by decide, by decide, fun r2 b2 r20 r21 hB2 => ?_⟩
    refine ⟨_, rfl, _, _, rfl, rfl, ⟨by decide, by decide, by decide⟩, a, _, m + 2, b2, rfl, upd_same, hB2, by omega, by decide, by decide, fun r3 b3 r30 r31 hB3 => ?_⟩
    refine ⟨by show 3 ≤ sizeLine; decide, fun l nl => ?_⟩
    have nla : l ≠ a := fun z => by
      rw [z, upd_same] at nl
      cases nl
    refine ⟨_, rfl, a, 3, m + 3, b3, rfl, by rw [upd_ne nla.symm, upd_same], hB3, by omega, by decide, by decide, fun r4 b4 r40 r41 hB4 => ?_⟩
    have hl : (upd (upd (upd (upd (upd H a (.lst b1)) a (.lst b2)) a (.lst b3)) l (.lst [.int r1, .int r2, .int r3])) a (.lst b4)) l = some (.lst [.int r1, .int r2, .int r3]) := by
      rw [upd_ne nla, upd_same]
    have bt : But a H (upd (upd (upd (upd (upd H a (.lst b1)) a (.lst b2)) a (.lst b3)) l (.lst [.int r1, .int r2, .int r3])) a (.lst b4)) := But.upd (But.new (But.upd (But.upd (But.upd (But.refl a H)))) nl)
    have r31' : r3 < 1000000 := r31
    have hc : r4 = 0 ∨ r4 = 1 ∨ r4 = 2 := by omega
    rcases hc with rfl | rfl | rfl
    · exact ⟨l, _, _, _, rfl, rfl, SqL.of hl, atI_nat (j := 0) rfl, q _ _ b4 bt upd_same hB4 r10 (by omega)⟩
    · exact ⟨l, _, _, _, rfl, rfl, SqL.of hl, atI_nat (j := 1) rfl, q _ _ b4 bt upd_same hB4 r20 (by omega)⟩
    · exact ⟨l, _, _, _, rfl, rfl, SqL.of hl, atI_nat (j := 2) rfl, q _ _ b4 bt upd_same hB4 r30 r31'⟩
end
/-! ### names: unlike ones, NAMEs all -/
abbrev s__law_named : Stmt := top 63
abbrev N__law_named : List Str := ["_law_box", "_law_many", "_law_letters", "_law_found", "_law_words", "_law_k", "_law_name", "_law_turn"]
abbrev P__law_named : List Str := ["_law_box", "_law_many"]
theorem sc__law_named : FnScope N__law_named P__law_named (defScope s__law_named) := ⟨rfl, rfl, rfl, by decide +kernel, rfl, by decide +kernel, by decide +kernel⟩
def LET : Str := "abcdefghijklmnopqrstuvwxyz"
theorem let_lst : LET.cps.toList = [97, 98, 99, 100, 101, 102, 103, 104, 105, 106, 107, 108, 109, 110, 111, 112, 113, 114, 115, 116, 117, 118, 119, 120, 121, 122] := by decide +kernel
theorem let_nth {i : Nat} (h : i < 26) : LET.cps.toList[i]? = some (97 + i) := by
  rw [let_lst]
  have hc : i = 0 ∨ i = 1 ∨ i = 2 ∨ i = 3 ∨ i = 4 ∨ i = 5 ∨ i = 6 ∨ i = 7 ∨ i = 8 ∨ i = 9 ∨ i = 10 ∨ i = 11 ∨ i = 12 ∨ i = 13 ∨ i = 14 ∨ i = 15 ∨ i = 16 ∨ i = 17 ∨ i = 18 ∨ i = 19 ∨ i = 20 ∨ i = 21 ∨ i = 22 ∨ i = 23 ∨ i = 24 ∨ i = 25 := by omega
  rcases hc with rfl | rfl | rfl | rfl | rfl | rfl | rfl | rfl | rfl | rfl | rfl | rfl | rfl | rfl | rfl | rfl | rfl | rfl | rfl | rfl | rfl | rfl | rfl | rfl | rfl | rfl <;> rfl
/-- letters, one to six -/
def Wd (w : List Nat) : Prop := 1 ≤ w.length ∧ w.length ≤ 6 ∧ ∀ c ∈ w, isLet c = true
/-- a NAME -/
def NmOk (w : List Nat) : Prop := Wd w ∧ w ≠ OWNL
theorem join_nil : ∀ ps : List (List Nat), TL.joinL [] ps = ps.flatten := fun ps => by
  induction ps with
  | nil => rfl
  | cons p r ih =>
    cases r with
    | nil => simp [TL.joinL]
    | cons q r =>
      show p ++ ([] ++ TL.joinL [] (q :: r)) = _
      rw [ih]
      rfl
theorem sing_flat : ∀ cs : List Nat, (cs.map fun c => [c]).flatten = cs
  | [] => rfl
  | c :: cs => by
    rw [List.map_cons, List.flatten_cons, sing_flat cs]
    rfl
theorem s_emp : (("" : String) : Str) = SX.S [] := by decide +kernel
theorem s_own : (("own" : String) : Str) = SX.S OWNL := by decide +kernel
def WORDS : Str := "copy plus less over rest least same pick sort make rule cap kept at number lay put end ask tree"
theorem words_wd : (Txt.split WORDS " ").length = 20 ∧ ∀ z ∈ Txt.split WORDS " ", ∃ w, z = SX.S w ∧ Wd w := by
  have hall : (Txt.split WORDS " ").length = 20 ∧ (Txt.split WORDS " ").all (fun z => decide (1 ≤ z.cps.toList.length) && (decide (z.cps.toList.length ≤ 6) && z.cps.toList.all isLet)) = true := by decide +kernel
  refine ⟨hall.1, fun z hz => ⟨z.cps.toList, (SX.S_tl z).symm, ?_⟩⟩
  have hh := List.all_eq_true.mp hall.2 z hz
  simp only [Bool.and_eq_true, decide_eq_true_eq] at hh
  exact ⟨hh.1, hh.2.1, fun c hc => List.all_eq_true.mp hh.2.2 c hc⟩
theorem nodup_le {us f : List (List Nat)} (h : us.Nodup) (s : ∀ u ∈ us, u ∈ f) : us.length ≤ f.length := by
  induction us generalizing f with
  | nil => exact Nat.zero_le _
  | cons u us ih =>
    have hu := s u (List.mem_cons_self ..)
    rw [List.nodup_cons] at h
    have := ih (f := f.erase u) h.2 fun x hx => (List.mem_erase_of_ne (fun z => h.1 (by rw [← z]; exact hx))).mpr (s x (List.mem_cons_of_mem _ hx))
    rw [List.length_erase_of_mem hu] at this
    have : 0 < f.length := List.length_pos_of_mem hu
    rw [List.length_cons]
    omega
/-- another name in the place of one that is taken -/
def bend (w : List Nat) (j : Nat) : List Nat := w.take 4 ++ [97] ++ [97 + j]
theorem bend_wd {w : List Nat} {j : Nat} (h : Wd w) (hj : j < 26) : Wd (bend w j) := by
  unfold bend
  refine ⟨?_, ?_, fun c hc => ?_⟩
  · rw [List.length_append, List.length_append]
    show 1 ≤ _ + 1 + 1
    omega
  · rw [List.length_append, List.length_append, List.length_take]
    show _ + 1 + 1 ≤ 6
    omega
  · rw [List.mem_append, List.mem_append] at hc
    rcases hc with (hc | hc) | hc
    · exact h.2.2 c (List.mem_of_mem_take hc)
    · rw [List.mem_singleton.mp hc]
      rfl
    · rw [List.mem_singleton.mp hc]
      unfold isLet
      rw [decide_eq_true (by omega : 97 ≤ 97 + j), decide_eq_true (by omega : 97 + j ≤ 122)]
      rfl
theorem bend_last (w : List Nat) (j : Nat) : (bend w j).getLast? = some (97 + j) := by
  unfold bend
  rw [List.getLast?_append]
  rfl
theorem bend_own {w : List Nat} {j : Nat} : bend w j ≠ OWNL := fun z => by
  have e : (bend w j).reverse = OWNL.reverse := congrArg List.reverse z
  unfold bend OWNL at e
  rw [List.reverse_append, List.reverse_append] at e
  have e2 : (97 + j) :: 97 :: (w.take 4).reverse = [110, 119, 111] := e
  injection e2 with _ e3
  injection e3 with e4 _
  exact absurd e4 (by decide)
/-- what the turns leave: it is free, or so many were met -/
def Clash (f : List (List Nat)) (j : Nat) (w : List Nat) : Prop := (w ∉ f ∧ w ≠ OWNL) ∨ j = 0 ∨ ∃ us : List (List Nat), us.Nodup ∧ (∀ u ∈ us, u ∈ f ∧ ∃ i, i + 1 < j ∧ u.getLast? = some (97 + i)) ∧ us.length + 1 = j ∧ w.getLast? = some (97 + (j - 1)) ∧ w ≠ OWNL
theorem clash_step {f : List (List Nat)} {j : Nat} {w : List Nat} (h : Clash f j w) (hb : w ∈ f ∨ w = OWNL) : Clash f (j + 1) (bend w j) := by
  refine .inr (.inr ?_)
  rcases h with ⟨h1, h2⟩ | rfl | ⟨us, n1, n2, n3, n4, n5⟩
  · rcases hb with hb | hb
    · exact absurd hb h1
    · exact absurd hb h2
  · exact ⟨[], List.nodup_nil, (fun u hu => nomatch hu), rfl, bend_last _ _, bend_own⟩
  · have hw : w ∈ f := by
      rcases hb with hb | hb
      · exact hb
      · exact absurd hb n5
    refine ⟨w :: us, List.nodup_cons.mpr ⟨fun hm => ?_, n1⟩, fun u hu => ?_, by rw [List.length_cons]; omega, bend_last _ _, bend_own⟩
    · obtain ⟨_, i, hi, hl⟩ := n2 w hm
      rw [n4] at hl
      have := Option.some.inj hl
      omega
    · rcases List.mem_cons.mp hu with rfl | hu
      · exact ⟨hw, j - 1, by omega, n4⟩
      · obtain ⟨h1, i, hi, hl⟩ := n2 u hu
        exact ⟨h1, i, by omega, hl⟩
theorem clash_end {f : List (List Nat)} {w : List Nat} (h : Clash f (f.length + 2) w) : w ∉ f ∧ w ≠ OWNL := by
  rcases h with h | h | ⟨us, n1, n2, n3, _, _⟩
  · exact h
  · omega
  · have := nodup_le n1 fun u hu => (n2 u hu).1
    omega
def nmV (ws : List (List Nat)) : List V := ws.map fun w => V.str (SX.S w)
theorem in_names (w : List Nat) (ws : List (List Nat)) : inV (.str (SX.S w)) (nmV ws) = decide (w ∈ ws) := by
  induction ws with
  | nil => rfl
  | cons u ws ih =>
    show (eqV (.str (SX.S u)) (.str (SX.S w)) || inV (.str (SX.S w)) (nmV ws)) = _
    rw [ih]
    show ((SX.S u == SX.S w) || _) = _
    rw [SX.S_beq_eq, Bool.eq_iff_iff, Bool.or_eq_true, decide_eq_true_eq, decide_eq_true_eq, decide_eq_true_eq, List.mem_cons]
    exact ⟨fun h => h.elim (fun e => .inl e.symm) .inr, fun h => h.elim (fun e => .inl e.symm) .inr⟩
theorem flat_names (ws : List (List Nat)) : (nmV ws).all flatV = true := by
  induction ws with
  | nil => rfl
  | cons w ws ih =>
    show (true && (nmV ws).all flatV) = true
    rw [ih]
    rfl
theorem nmV_len (ws : List (List Nat)) : (nmV ws).length = ws.length := List.length_map _
def spNamed : Sp := fun vs H Q _ => ∃ (a : Addr) (many m : Nat) (b : List V), vs = [.ref a, .int many] ∧ many ≤ 20 ∧ H a = some (.lst b) ∧ BoxL m b ∧ m + 10 * many < 900000 ∧
  ∀ (H' : Hp) (l : Addr) (ws : List (List Nat)) (b' : List V), But a H H' → H l = none → H' l = some (.lst (nmV ws)) → ws.length = many → ws.Nodup → (∀ w ∈ ws, NmOk w) → H' a = some (.lst b') → BoxL (m + 10 * many) b' → Q (.ref l) H'
section
variable {P : Program} {w : World} {K : PySem.W.Frag} {mg : Str → Option Value} {base : Heap}
theorem ok_named (T : Bt mg) (c_law_take : C8.Cal P w K mg base 1 "_law_take" spTake []) (D : Dd K mg "_law_named" s__law_named P__law_named) : C8.Cal P w K mg base 2 "_law_named" spNamed [] := by
  refine D.cal sc__law_named (fun vs H Q E h => ?_) (fun f cdv A outer s H vs Q E hr h => ?_)
  · obtain ⟨a, many, m, b, rfl, _⟩ := h
    rfl
  · obtain ⟨a, many, m, b, rfl, hmany, ha, hB, hm, q⟩ := h
    refine ⟨_, (pss_cons (ps_asg (pe_tup (pa_cons pe_str (pa_cons (pe_lst pa_nil) pa_nil))) (pg_tup rfl (pgs_cons (pg_name (i := 2) sc__law_named.nd rfl (Or.inr rfl)) (pgs_cons (pg_name (i := 3) sc__law_named.nd rfl (Or.inl rfl)) pgs_nil))))
        (pss_cons (ps_set (i := 4) sc__law_named.nd rfl (Or.inl rfl) pe_str)
        (pss_cons (ps_for PassesOwn.never rfl (pi_range1 rfl T.range (pa_cons (pv 1) pa_nil)) (pg_name (i := 5) sc__law_named.nd rfl (Or.inl rfl))
          (pss_cons (ps_set (i := 6) sc__law_named.nd rfl (Or.inl rfl) (pe_bm PySem.F.plainAttrs_str PySem.F.slot_str_join PySem.F.type_str_join mt_join pe_str (pa_cons (pe_lc (own := [("_law_turn", 7)]) (by exact rfl) sc__law_named.nd (pi_range1 rfl T.range (pa_cons (pe_ix ix_list (pe_lst (pa_cons pe_int (pa_cons pe_int (pa_cons pe_int (pa_cons pe_int pa_nil))))) (C8.pe_c c_law_take hr (by decide) (by rfl) (pa_cons (pv 0) (pa_cons pe_int pa_nil))) (fun _ _ => rfl)) pa_nil)) (blkOk_by (own := [("_law_turn", 7)]) (N := N__law_named) (sc := defScope s__law_named) (by decide +kernel)) (fun _ _ _ _ _ => (pg_name (i := 7) sc__law_named.nd rfl (Or.inl rfl))) (fun _ _ _ _ _ => pts_nil) (fun _ _ _ _ _ => (pe_ix ix_str (pv 2) (C8.pe_c c_law_take hr (by decide) (by rfl) (pa_cons (pv 0) (pa_cons pe_int pa_nil))) (fun _ _ => rfl)))) pa_nil)))
        (C8.pss_cut (ps_if (pt_cmpR op_eq (C8.pe_c c_law_take hr (by decide) (by rfl) (pa_cons (pv 0) (pa_cons pe_int pa_nil))) pe_int (nomark _))
          (pss_one (ps_set (i := 6) sc__law_named.nd rfl (Or.inl rfl) (pe_ix ix_list (pe_bm PySem.F.plainAttrs_str PySem.F.slot_str_split PySem.F.type_str_split mt_split (pv 4) (pa_cons pe_str pa_nil)) (C8.pe_c c_law_take hr (by decide) (by rfl) (pa_cons (pv 0) (pa_cons pe_int pa_nil))) (fun _ _ => rfl))))
          pss_nil)
        (pss_cons (ps_for PassesOwn.never rfl (pi_range1 rfl T.range (pa_cons (pe_op op_add (pe_callB call_len_seq (by rfl) T.len PySem.boot_len (pa_cons (pv 3) pa_nil)) pe_int) pa_nil)) (pg_name (i := 7) sc__law_named.nd rfl (Or.inl rfl))
          (pss_one (ps_if (PW.pt (pw_or (pt_cmpR op_in_seq (pv 6) (pv 3) (by with_unfolding_all rfl)) (pw_or1 (pt_cmpR op_eq (pv 6) pe_str (nomark _)))))
          (pss_one (ps_set (i := 6) sc__law_named.nd rfl (Or.inl rfl) (pe_op op_add_str (pe_op op_add_str (pe_slice sl_str (pv 6) po_none (po_some pe_int)) (pe_ix ix_str (pv 2) (pe_op op_fdiv (pv 7) pe_int) (fun _ _ => rfl))) (pe_ix ix_str (pv 2) (pe_op op_mod (pv 7) pe_int) (fun _ _ => rfl)))))
          pss_nil)))
        (pss_one (ps_expr (pe_bm PySem.F.plainAttrs_list PySem.F.slot_list_append PySem.F.type_list_append mt_append (pv 3) (pa_cons (pv 6) pa_nil))))))))
        (pss_one (ps_ret (pv 3)))))), ?_⟩
    refine ⟨by show 0 ≤ sizeLine; decide, fun l nl => ⟨by show 2 ≤ sizeLine; decide, fun tp nt => ⟨tp, _, rfl, SqT.of upd_same, rfl, _, _, rfl, _, _, rfl, rfl, ?_⟩⟩⟩
    have nla : a ≠ l := ne_of_none ha nl
    have s1 := same_upd (o := .lst []) nl
    have s2 := same_upd (o := .tup [.str "abcdefghijklmnopqrstuvwxyz", .ref l]) nt
    have hl0 := s2 _ _ (upd_same (H := H) (a := l) (o := .lst []))
    have ha0 := s2 _ _ (s1 _ _ ha)
    have s12 := s1.trans s2
    obtain ⟨H0, e0⟩ : ∃ H0, H0 = upd (upd H l (.lst [])) tp (.tup [.str "abcdefghijklmnopqrstuvwxyz", .ref l]) := ⟨_, rfl⟩
    rw [← e0] at hl0 ha0 s12 ⊢
    refine ⟨_, rfl, _, rfl, by omega, by omega, ?_⟩
    refine for_range (lo := 0) (fun i σ H2 => ∃ y5 y6 y7 ws b', σ = [some (.ref a), some (.int many), some (.str LET), some (.ref l), some (.str WORDS), y5, y6, y7] ∧ But a H H2 ∧ H2 l = some (.lst (nmV ws)) ∧ ws.length = i ∧ ws.Nodup ∧ (∀ w ∈ ws, NmOk w) ∧ H2 a = some (.lst b') ∧ BoxL (m + 10 * i) b')
      ⟨none, none, none, [], b, rfl, But.of s12, hl0, rfl, List.nodup_nil, (fun z hz => nomatch hz), ha0, hB⟩ ?_ ?_
    · rintro i σ H2 hi ⟨y5, y6, y7, ws, b2, rfl, bt2, hl2, hzl, hnd, hws, hb2, hB2⟩
      rw [Int.zero_add]
      have hi' : i < 20 := by omega
      refine ⟨rfl, by show 4 ≤ sizeLine; decide, fun l4 n4 => ?_⟩
      have na4 : a ≠ l4 := ne_of_none hb2 n4
      refine ⟨_, rfl, a, 4, m + 10 * i, b2, rfl, same_upd n4 _ _ hb2, hB2, by omega, by decide, by decide, fun r4 b3 r40 r41 hB3 => ?_⟩
      obtain ⟨nn, hn1, hnn, hat⟩ : ∃ nn : Nat, 1 ≤ nn ∧ nn ≤ 6 ∧ atI [V.int 1, .int 2, .int 3, .int 6] r4 = some (.int nn) := by
        have hc : r4 = 0 ∨ r4 = 1 ∨ r4 = 2 ∨ r4 = 3 := by omega
        rcases hc with rfl | rfl | rfl | rfl
        · exact ⟨1, by decide, by decide, atI_nat (j := 0) rfl⟩
        · exact ⟨2, by decide, by decide, atI_nat (j := 1) rfl⟩
        · exact ⟨3, by decide, by decide, atI_nat (j := 2) rfl⟩
        · exact ⟨6, by decide, by decide, atI_nat (j := 3) rfl⟩
      refine ⟨l4, _, _, _, rfl, rfl, SqL.of (by rw [upd_ne na4.symm, upd_same]), hat, nn, rfl, by omega, by omega, fun D nD => ?_⟩
      have hl3 : (upd (upd H2 l4 (.lst [.int 1, .int 2, .int 3, .int 6])) a (.lst b3)) l = some (.lst (nmV ws)) := by
        rw [upd_ne nla.symm]
        exact same_upd n4 _ _ hl2
      have hb3 : (upd (upd H2 l4 (.lst [.int 1, .int 2, .int 3, .int 6])) a (.lst b3)) a = some (.lst b3) := upd_same
      have bt3 : But a H (upd (upd H2 l4 (.lst [.int 1, .int 2, .int 3, .int 6])) a (.lst b3)) := But.upd (But.new bt2 n4)
      obtain ⟨Z, eZ⟩ : ∃ Z, Z = upd (upd H2 l4 (.lst [.int 1, .int 2, .int 3, .int 6])) a (.lst b3) := ⟨_, rfl⟩
      rw [← eZ] at nD hl3 hb3 bt3 ⊢
      have nDa : a ≠ D := ne_of_none hb3 nD
      refine lc_range (lo := 0) (n := (nn : Int).toNat) (fun j H' => But a Z H' ∧ ∃ b' cs, H' a = some (.lst b') ∧ BoxL (m + 10 * i + 1 + j) b' ∧ H' D = some (.lst (nmV (cs.map fun c => [c]))) ∧ cs.length = j ∧ ∀ c ∈ cs, isLet c = true)
        ⟨But.of (same_upd nD), b3, [], by rw [upd_ne nDa]; exact hb3, hB3, upd_same, rfl, (fun z hz => nomatch hz)⟩ ?_ ?_
      · rintro j H4 hj ⟨bt4, b4, cs, hb4, hB4, hD4, hyl, hys⟩
        refine ⟨rfl, yesT ?_⟩
        refine ⟨_, rfl, _, rfl, a, 26, _, b4, rfl, hb4, hB4, by omega, by decide, by decide, fun r b5 r0 r1 hB5 => ?_⟩
        obtain ⟨k, rfl⟩ := Int.eq_ofNat_of_zero_le r0
        have hk : k < 26 := by omega
        refine ⟨LET, _, 97 + k, rfl, rfl, by decide +kernel, atI_nat (let_nth hk), ?_⟩
        refine ⟨_, by rw [upd_ne nDa.symm]; exact hD4, by rw [nmV_len, List.length_map, hyl]; exact small1000 (by omega), ?_, b5, cs ++ [97 + k], by rw [upd_ne nDa, upd_same], hB5, by rw [upd_same]; unfold nmV; rw [List.map_append, List.map_append]; rfl, by rw [List.length_append, hyl]; rfl, fun c hc => ?_⟩
        · refine fun x o nx hx => ?_
          rw [upd_ne (ne_of_none hx nD), upd_ne nx]
          exact bt4 _ _ nx hx
        · rcases List.mem_append.mp hc with h | h
          · exact hys c h
          · rw [List.mem_singleton.mp h]
            unfold isLet
            rw [decide_eq_true (by omega : 97 ≤ 97 + k), decide_eq_true (by omega : 97 + k ≤ 122)]
            rfl
      rintro H4 ⟨bt4, b4, cs, hb4, hB4, hD4, hyl, hys⟩
      have hy6 : cs.length ≤ 6 := by omega
      have hB4 := hB4.mono (show m + 10 * i + 1 + (nn : Int).toNat ≤ m + 10 * i + 7 by omega)
      have hD4' : H4 D = some (.lst (((cs.map fun c => [c]).map SX.S).map V.str)) := by
        rw [hD4]
        unfold nmV
        rw [List.map_map, List.map_map, List.map_map]
        rfl
      refine ⟨"", D, (cs.map fun c => [c]).map SX.S, rfl, rfl, .inl (SqL.of hD4'), ?_, ?_⟩
      · rw [SX.lens, List.map_map, show (("" : String) : Str).length = 0 from rfl, Nat.mul_zero, Nat.add_zero]
        have : ∀ l : List Nat, ((l.map ((fun x : List Nat => x.length) ∘ fun c => [c])).sum) = l.length := fun l => by
          induction l with
          | nil => rfl
          | cons c l ih =>
            rw [List.map_cons, List.sum_cons, ih, List.length_cons]
            show 1 + _ = _
            omega
        rw [this]
        omega
      have ejoin : Txt.join "" ((cs.map fun c => [c]).map SX.S) = SX.S cs := by
        rw [s_emp, SX.join_S, join_nil, sing_flat]
      rw [ejoin]
      have wd0 : Wd cs := ⟨by omega, hy6, hys⟩
      have hl4 := bt4 _ _ nla.symm hl3
      have btA := bt3.trans bt4
      refine ⟨fun σ H5 => ∃ z b5, σ = [some (.ref a), some (.int many), some (.str LET), some (.ref l), some (.str WORDS), some (.int i), some (.str (SX.S z)), y7] ∧ Wd z ∧ But a H H5 ∧ H5 l = some (.lst (nmV ws)) ∧ H5 a = some (.lst b5) ∧ BoxL (m + 10 * i + 9) b5, ?_, ?_⟩
      · refine ⟨_, rfl, a, 12, m + 10 * i + 7, b4, rfl, hb4, hB4, by omega, by decide, by decide, fun r b5 r0 r1 hB5 => ⟨rfl, _, rfl, ?_⟩⟩
        have hl5 : (upd H4 a (.lst b5)) l = some (.lst (nmV ws)) := by
          rw [upd_ne nla.symm]
          exact hl4
        have bt5 : But a H (upd H4 a (.lst b5)) := But.upd btA
        by_cases e : r = 0
        · refine ifT (decide_eq_true (by rw [e])) ?_
          refine ⟨_, rfl, rfl, WORDS, " ", rfl, rfl, rfl, by decide +kernel, fun p np => ?_⟩
          have npa : a ≠ p := fun z => by
            rw [← z, upd_same] at np
            cases np
          refine ⟨_, rfl, a, 20, m + 10 * i + 8, b5, rfl, same_upd np _ _ upd_same, hB5, by omega, by decide, by decide, fun r2 b6 r20 r21 hB6 => ?_⟩
          obtain ⟨w20, wnm⟩ := words_wd
          obtain ⟨k, rfl⟩ : ∃ k : Nat, r2 = (k : Int) := ⟨r2.toNat, by omega⟩
          have hk : k < (Txt.split WORDS " ").length := by
            rw [w20]
            omega
          obtain ⟨wd, ewd, hwd⟩ := wnm _ (List.getElem_mem hk)
          refine ⟨p, _, _, .str (Txt.split WORDS " ")[k], rfl, rfl, SqL.of (by rw [upd_ne npa.symm, upd_same]), atI_nat (j := k) (by rw [List.getElem?_map, List.getElem?_eq_getElem hk]; rfl), ?_⟩
          rw [ewd]
          exact ⟨wd, b6, rfl, hwd, But.upd (But.new bt5 np), by rw [upd_ne nla.symm]; exact same_upd np _ _ hl5, upd_same, hB6⟩
        · exact ifF (decide_eq_false fun z => e (V.int.inj z)) ⟨cs, b5, rfl, wd0, bt5, hl5, upd_same, hB5.mono (by omega)⟩
      · rintro σ H5 ⟨z0, b5, rfl, hz0, bt5, hl5, hb5, hB5⟩
        have hzl2 : ((nmV ws).length : Int) ≤ 20 := by
          rw [nmV_len]
          omega
        refine ⟨_, rfl, l, _, rfl, .inl (SqL.of hl5), _, _, rfl, rfl, _, rfl, by omega, by omega, ?_⟩
        refine for_range (lo := 0) (fun j σ H6 => H6 = H5 ∧ ∃ z y, σ = [some (.ref a), some (.int many), some (.str LET), some (.ref l), some (.str WORDS), some (.int i), some (.str (SX.S z)), y] ∧ Wd z ∧ Clash ws j z) ⟨rfl, z0, y7, rfl, hz0, .inr (.inl rfl)⟩ ?_ ?_
        · rintro j σ H6 hj ⟨rfl, z, y, rfl, hz, hcl⟩
          rw [Int.zero_add]
          have hj2 : j < 26 := by omega
          have ec : cutS (SX.S z) none (some 4) = SX.S (z.take 4) := by
            unfold cutS
            have hl : (SX.S z).length = z.length := SX.S_len z
            rw [HT.sIx_none, show HT.sIx (SX.S z).length (SX.S z).length (some (4 : Int)) = min 4 (SX.S z).length from HT.sIx_nat _ _ 4, hl, Nat.sub_zero]
            show SX.S ((z.drop 0).take (min 4 z.length)) = _
            rw [List.drop_zero]
            congr 1
            by_cases h4 : 4 ≤ z.length
            · rw [Nat.min_eq_left h4]
            · rw [Nat.min_eq_right (by omega), List.take_length, List.take_of_length_le (by omega)]
          have lz : (SX.S z).length ≤ sizeLine := by
            rw [SX.S_len]
            exact Nat.le_trans hz.2.1 (by decide)
          have l4 : (z.take 4).length ≤ 4 := by
            rw [List.length_take]
            omega
          -- the name is bent
          have bent : (w' : Bool) → w' = true → (z ∈ ws ∨ z = OWNL) → ∃ z' y', ([some (.ref a), some (.int many), some (.str LET), some (.ref l), some (.str WORDS), some (.int i), some (.str (SX.S (bend z j))), some (.int (j : Nat))] : L2.St) = [some (.ref a), some (.int many), some (.str LET), some (.ref l), some (.str WORDS), some (.int i), some (.str (SX.S z')), y'] ∧ Wd z' ∧ Clash ws (j + 1) z' :=
            fun _ _ hb => ⟨bend z j, _, rfl, bend_wd hz hj2, clash_step hcl hb⟩
          have e97 : (SX.S (z.take 4) ++ ⟨#[97]⟩ ++ ⟨#[97 + j]⟩ : Str) = SX.S (bend z j) := by
            show SX.S (z.take 4) ++ SX.S [97] ++ SX.S [97 + j] = _
            rw [SX.S_cat, SX.S_cat]
            rfl
          have at1 : atI LET.cps.toList ((j : Int) / 26) = some 97 := by
            rw [show (j : Int) / 26 = ((0 : Nat) : Int) by omega]
            exact atI_nat (let_nth (by decide))
          have at2 : atI LET.cps.toList ((j : Int) % 26) = some (97 + j) := by
            rw [show (j : Int) % 26 = ((j : Nat) : Int) by omega]
            exact atI_nat (let_nth hj2)
          have s97 : (⟨#[97]⟩ : Str).length = 1 := rfl
          have s97j : (⟨#[97 + j]⟩ : Str).length = 1 := rfl
          have f1 : (cutS (SX.S z) none (some 4)).length + (⟨#[97]⟩ : Str).length ≤ sizeLine := by
            rw [ec, SX.S_len, s97]
            exact Nat.le_trans (show _ ≤ 7 by omega) (by decide)
          have f2 : (cutS (SX.S z) none (some 4) ++ ⟨#[97]⟩).length + (⟨#[97 + j]⟩ : Str).length ≤ sizeLine := by
            rw [strLen_append, ec, SX.S_len, s97, s97j]
            exact Nat.le_trans (show _ ≤ 7 by omega) (by decide)
          refine ⟨_, rfl, _, rfl, l, _, rfl, .inl (SqL.of hl5), rfl, flat_names ws, _, rfl, ?_⟩
          show if inV (.str (SX.S z)) (nmV ws) = true then _ else _
          rw [in_names]
          by_cases hin : z ∈ ws
          · refine ifT (decide_eq_true hin) (iteT ?_)
            refine ⟨_, rfl, 4, rfl, SX.S z, rfl, lz, ?_⟩
            refine ⟨_, rfl, _, rfl, _, _, rfl, rfl, ⟨by show (0 : Int) < 26; decide, by decide⟩, LET, _, 97, rfl, rfl, by decide +kernel, at1, _, _, rfl, rfl, f1, ?_⟩
            refine ⟨_, rfl, _, rfl, _, _, rfl, rfl, (by show (0 : Int) < 26; decide), LET, _, 97 + j, rfl, rfl, by decide +kernel, at2, _, _, rfl, rfl, f2, ?_⟩
            rw [ec, e97]
            exact ⟨rfl, bent true rfl (.inl hin)⟩
          · refine ifF (decide_eq_false hin) ?_
            refine ⟨_, rfl, rfl, _, rfl, ?_⟩
            by_cases ho : z = OWNL
            · refine ifT (decide_eq_true (by rw [ho, s_own])) ?_
              refine ⟨_, rfl, 4, rfl, SX.S z, rfl, lz, ?_⟩
              refine ⟨_, rfl, _, rfl, _, _, rfl, rfl, ⟨by show (0 : Int) < 26; decide, by decide⟩, LET, _, 97, rfl, rfl, by decide +kernel, at1, _, _, rfl, rfl, f1, ?_⟩
              refine ⟨_, rfl, _, rfl, _, _, rfl, rfl, (by show (0 : Int) < 26; decide), LET, _, 97 + j, rfl, rfl, by decide +kernel, at2, _, _, rfl, rfl, f2, ?_⟩
              rw [ec, e97]
              exact ⟨rfl, bent true rfl (.inr ho)⟩
            · refine ifF (decide_eq_false fun y => ho (by rw [s_own] at y; exact SX.S_inj (V.str.inj y))) ⟨rfl, z, _, rfl, hz, .inl ⟨hin, ho⟩⟩
        · rintro σ H6 ⟨rfl, z, y, rfl, hz, hcl⟩
          have hcl : Clash ws (ws.length + 2) z := by
            have e : ((nmV ws).length : Int) + 2 = ((ws.length + 2 : Nat) : Int) := by
              rw [nmV_len]
              omega
            have hcl2 : Clash ws (((nmV ws).length : Int) + 2).toNat z := hcl
            rw [e, Int.toNat_natCast] at hcl2
            exact hcl2
          obtain ⟨hfree, hown⟩ := clash_end hcl
          refine ⟨_, rfl, .inl ⟨rfl, _, SqL.of hl5⟩, _, rfl, l, _, .str (SX.S z), rfl, rfl, hl5, by rw [nmV_len]; exact small1000 (by omega), ?_⟩
          refine ⟨_, _, _, ws ++ [z], b5, rfl, ?_, by rw [upd_same]; unfold nmV; rw [List.map_append]; rfl, by rw [List.length_append, hzl]; rfl, ?_, fun x hx => ?_, by rw [upd_ne nla]; exact hb5, hB5.mono (by omega)⟩
          · refine fun x o nx hx => ?_
            rw [upd_ne (ne_of_none hx nl)]
            exact bt5 _ _ nx hx
          · rw [List.nodup_append]
            exact ⟨hnd, by simp, fun x hx y hy => by
              rw [List.mem_singleton.mp hy]
              exact fun e => hfree (e ▸ hx)⟩
          · rcases List.mem_append.mp hx with h | h
            · exact hws x h
            · rw [List.mem_singleton.mp h]
              exact ⟨hz, hown⟩
    · rintro σ H2 ⟨y5, y6, y7, ws, b2, rfl, bt2, hl2, hzl, hnd, hws, hb2, hB2⟩
      exact ⟨_, rfl, q _ l ws b2 bt2 nl hl2 hzl hnd hws hb2 hB2⟩
end
/-! ### data without lists stand wherever tuples stand -/
def TupO (o : HO) : Prop := (∃ xs, o = .tup xs) ∨ ∃ o' v, o = .frz o' v
def KeepT (H H' : Hp) : Prop := ∀ c o, TupO o → H c = some o → H' c = some o
theorem lst_no {xs : List V} : ¬ TupO (.lst xs) := by
  rintro (⟨ys, z⟩ | ⟨o', v, z⟩) <;> cases z
theorem dK_no {xs : List (Key × V)} : ¬ TupO (.dK xs) := by
  rintro (⟨ys, z⟩ | ⟨o', v, z⟩) <;> cases z
theorem KeepT.refl (H : Hp) : KeepT H H := fun _ _ _ h => h
theorem KeepT.trans {H H1 H2 : Hp} (x : KeepT H H1) (y : KeepT H1 H2) : KeepT H H2 := fun c o t h => y c o t (x c o t h)
theorem KeepT.of {H H' : Hp} (s : Same H H') : KeepT H H' := fun c o _ h => s c o h
theorem KeepT.but {H H' : Hp} {a : Addr} {xs : List V} (ha : H a = some (.lst xs)) (b : But a H H') : KeepT H H' := fun c o t h => b c o (fun z => by
  rw [z, ha] at h
  cases h
  exact lst_no t) h
theorem KeepT.at_ {H : Hp} {a : Addr} {o0 o : HO} (ha : H a = some o0) (n : ¬ TupO o0) : KeepT H (upd H a o) := fun c x t h => by
  rw [upd_ne (fun z => by
    rw [z, ha] at h
    cases h
    exact n t)]
  exact h
theorem KeepT.new {H : Hp} {p : Addr} {o : HO} (n : H p = none) : KeepT H (upd H p o) := KeepT.of (same_upd n)
mutual
def imm : PyData → Bool
  | .tuple ds => immAll ds
  | .list _ => false
  | .dict _ => false
  | .none => true
  | .bool _ => true
  | .int _ => true
  | .str _ => true
def immAll : List PyData → Bool
  | [] => true
  | d :: ds => imm d && immAll ds
end
section
variable {K : PySem.W.Frag} {H H' : Hp}
theorem KeepT.seqT {a : Addr} {xs : List V} (k : KeepT H H') (h : SqT K H a xs) : SqT K H' a xs := by
  rcases h with (h | ⟨o, h⟩) | h
  · exact .inl (.inl (k _ _ (.inl ⟨_, rfl⟩) h))
  · exact .inl (.inr ⟨o, k _ _ (.inr ⟨_, _, rfl⟩) h⟩)
  · exact .inr h
mutual
theorem dp_imm (k : KeepT H H') : ∀ {v : V} {d : PyData}, Dp K H v d → imm d = true → Dp K H' v d
  | _, _, .non, _ => .non
  | _, _, .bl b, _ => .bl b
  | _, _, .int i, _ => .int i
  | _, _, .str x, _ => .str x
  | _, _, .lst h a, i => nomatch (show (false : Bool) = true from i)
  | _, _, .tup h a, i => .tup (k.seqT h) (dpAll_imm k a i)
theorem dpAll_imm (k : KeepT H H') : ∀ {vs : List V} {ds : List PyData}, DpAll K H vs ds → immAll ds = true → DpAll K H' vs ds
  | _, _, .nil, _ => .nil
  | _, _, .cons h a, i => .cons (dp_imm k h (Bool.and_eq_true_iff.mp i).1) (dpAll_imm k a (Bool.and_eq_true_iff.mp i).2)
end
end
theorem immAll_app : ∀ {ds es : List PyData}, immAll ds = true → immAll es = true → immAll (ds ++ es) = true
  | [], _, _, h => h
  | d :: ds, es, h, k => by
    obtain ⟨h1, h2⟩ := Bool.and_eq_true_iff.mp h
    show (imm d && immAll (ds ++ es)) = true
    rw [h1, immAll_app h2 k]
    rfl
theorem immAll_map {α : Type} {f : α → PyData} (h : ∀ a, imm (f a) = true) : ∀ l : List α, immAll (l.map f) = true
  | [] => rfl
  | a :: l => by
    show (imm (f a) && immAll (l.map f)) = true
    rw [h a, immAll_map h l]
    rfl
theorem dpAll_appI {K : PySem.W.Frag} {H : Hp} : ∀ {vs ws : List V} {ds es : List PyData}, DpAll K H vs ds → DpAll K H ws es → DpAll K H (vs ++ ws) (ds ++ es)
  | _, _, _, _, .nil, h => h
  | _, _, _, _, .cons h a, k => .cons h (dpAll_appI a k)
/-! ### slices by whole numbers -/
theorem cutV_to (xs : List V) (k : Nat) : cutV xs none (some (k : Int)) = xs.take k := by
  unfold cutV
  rw [HT.sIx_none, show HT.sIx xs.length xs.length (some (k : Int)) = min k xs.length from HT.sIx_nat _ _ k, List.drop_zero, Nat.sub_zero]
  by_cases h : k ≤ xs.length
  · rw [Nat.min_eq_left h]
  · rw [Nat.min_eq_right (by omega), List.take_length, List.take_of_length_le (by omega)]
theorem cutV_from (xs : List V) (i : Nat) : cutV xs (some (i : Int)) none = xs.drop i := by
  unfold cutV
  rw [HT.sIx_none, show HT.sIx xs.length 0 (some (i : Int)) = min i xs.length from HT.sIx_nat _ _ i]
  by_cases h : i ≤ xs.length
  · rw [Nat.min_eq_left h, List.take_of_length_le (by rw [List.length_drop]; exact Nat.le_refl _)]
  · rw [List.drop_eq_nil_of_le (by omega : xs.length ≤ min i xs.length), List.take_nil, List.drop_eq_nil_of_le (by omega)]
theorem cutV_nat (xs : List V) (i k : Nat) : cutV xs (some (i : Int)) (some (k : Int)) = (xs.drop i).take (k - i) := by
  unfold cutV
  rw [show HT.sIx xs.length 0 (some (i : Int)) = min i xs.length from HT.sIx_nat _ _ i, show HT.sIx xs.length xs.length (some (k : Int)) = min k xs.length from HT.sIx_nat _ _ k]
  by_cases hi : i ≤ xs.length
  · rw [Nat.min_eq_left hi]
    by_cases hk : k ≤ xs.length
    · rw [Nat.min_eq_left hk]
    · rw [Nat.min_eq_right (by omega), List.take_of_length_le (by rw [List.length_drop]; omega), List.take_of_length_le (by rw [List.length_drop]; omega)]
  · rw [List.drop_eq_nil_of_le (by omega : xs.length ≤ min i xs.length), List.drop_eq_nil_of_le (by omega : xs.length ≤ i), List.take_nil, List.take_nil]
theorem perm_map {α : Type} {f : α → V} : ∀ {ys xs : List V}, ys.Perm xs → ∀ us : List α, xs = us.map f → ∃ ws : List α, ys = ws.map f ∧ ws.Perm us := by
  intro ys xs h
  induction h with
  | nil =>
    intro us e
    exact ⟨[], rfl, by rw [List.map_eq_nil_iff.mp e.symm]⟩
  | cons x _ ih =>
    intro us e
    cases us with
    | nil => cases e
    | cons u us =>
      injection e with e1 e2
      obtain ⟨ws, h1, h2⟩ := ih us e2
      exact ⟨u :: ws, by rw [h1, e1]; rfl, h2.cons u⟩
  | swap x y l =>
    intro us e
    cases us with
    | nil => cases e
    | cons u us =>
      cases us with
      | nil =>
        injection e with _ e2
        cases e2
      | cons u2 us =>
        injection e with e1 e2
        injection e2 with e2 e3
        exact ⟨u2 :: u :: us, by rw [e1, e2, e3]; rfl, .swap u u2 us⟩
  | trans _ _ ih1 ih2 =>
    intro us e
    obtain ⟨ws, h1, h2⟩ := ih2 us e
    obtain ⟨vs, h3, h4⟩ := ih1 ws h1
    exact ⟨vs, h3, h4.trans h2⟩
/-! ### sorts drawn -/
abbrev s__law_sort_rows : Stmt := top 65
abbrev N__law_sort_rows : List Str := ["_law_box", "_law_many", "_law_names", "_law_rows", "_law_k", "_law_some", "_law_cut"]
abbrev P__law_sort_rows : List Str := ["_law_box", "_law_many"]
theorem sc__law_sort_rows : FnScope N__law_sort_rows P__law_sort_rows (defScope s__law_sort_rows) := ⟨rfl, rfl, rfl, by decide +kernel, rfl, by decide +kernel, by decide +kernel⟩
def strD (w : List Nat) : PyData := .str (SX.S w)
structure SRow where
  nm : List Nat
  dn : List (List Nat)
  up : List (List Nat)
def SRow.d (r : SRow) : PyData := .tuple [strD r.nm, .tuple (r.dn.map strD), .tuple (r.up.map strD)]
structure SOk (r : SRow) : Prop where
  nm : NmOk r.nm
  all : ∀ w ∈ r.dn ++ r.up, NmOk w
  nd : (r.dn ++ r.up).Nodup
  d2 : r.dn.length ≤ 2
  u2 : r.up.length ≤ 2
structure SortsOk (rs : List SRow) : Prop where
  ok : ∀ r ∈ rs, SOk r
  nd : (rs.map SRow.nm).Nodup
  le : rs.length ≤ 4
theorem strD_imm (w : List Nat) : imm (strD w) = true := rfl
theorem SRow.imm (r : SRow) : Thr.imm r.d = true := by
  show (true && (immAll (r.dn.map strD) && (immAll (r.up.map strD) && true))) = true
  rw [immAll_map strD_imm, immAll_map strD_imm]
  rfl
theorem nm_dp {K : PySem.W.Frag} {H : Hp} : ∀ ws : List (List Nat), DpAll K H (nmV ws) (ws.map strD)
  | [] => .nil
  | w :: ws => .cons (.str _) (nm_dp ws)
theorem nmV_take (ws : List (List Nat)) (k : Nat) : (nmV ws).take k = nmV (ws.take k) := List.map_take.symm
theorem nmV_drop (ws : List (List Nat)) (k : Nat) : (nmV ws).drop k = nmV (ws.drop k) := List.map_drop.symm
theorem nmV_at {ws : List (List Nat)} {i : Nat} {w : List Nat} (h : ws[i]? = some w) : (nmV ws)[i]? = some (.str (SX.S w)) := by
  unfold nmV
  rw [List.getElem?_map, h]
  rfl
def spSortRows (K : PySem.W.Frag) : Sp := fun vs H Q _ => ∃ (a : Addr) (many m : Nat) (b : List V), vs = [.ref a, .int many] ∧ 1 ≤ many ∧ many ≤ 4 ∧ H a = some (.lst b) ∧ BoxL m b ∧ m + 300 < 900000 ∧
  ∀ (H' : Hp) (l : Addr) (vs' : List V) (rs : List SRow) (b' : List V), But a H H' → H l = none → H' l = some (.lst vs') → DpAll K H' vs' (rs.map SRow.d) → rs.length = many → SortsOk rs → H' a = some (.lst b') → BoxL (m + 300) b' → Q (.ref l) H'
structure So (mg : Str → Option Value) : Prop where
  range : mg "range" = none
  tuple : mg "tuple" = none
section
variable {P : Program} {w : World} {K : PySem.W.Frag} {mg : Str → Option Value} {base : Heap}
theorem ok_sort_rows (T : So mg) (c_law_take : C8.Cal P w K mg base 1 "_law_take" spTake []) (c_law_named : C8.Cal P w K mg base 2 "_law_named" spNamed []) (c_law_strewn : C8.Cal P w K mg base 2 "_law_strewn" (spStrewn K) [])
    (D : Dd K mg "_law_sort_rows" s__law_sort_rows P__law_sort_rows) : C8.Cal P w K mg base 3 "_law_sort_rows" (spSortRows K) [] := by
  refine D.cal sc__law_sort_rows (fun vs H Q E h => ?_) (fun f cdv A outer s H vs Q E hr h => ?_)
  · obtain ⟨a, many, m, b, rfl, _⟩ := h
    rfl
  · obtain ⟨a, many, m, b, rfl, hm1, hm4, ha, hB, hm, q⟩ := h
    refine ⟨_, (pss_cons (ps_par rfl sc__law_sort_rows.nd (i := 2) (j := 3) rfl rfl (by decide) rfl rfl (pa_cons (C8.pe_c c_law_named hr (by decide) (by rfl) (pa_cons (pv 0) (pa_cons (pe_op op_add (pv 1) pe_int) pa_nil))) (pa_cons (pe_lst pa_nil) pa_nil)) (by rfl))
        (pss_cons (ps_for PassesOwn.never rfl (pi_range1 rfl T.range (pa_cons (pv 1) pa_nil)) (pg_name (i := 4) sc__law_sort_rows.nd rfl (Or.inl rfl))
          (C8.pss_cut (ps_set (i := 5) sc__law_sort_rows.nd rfl (Or.inl rfl) (pe_ifExp (pt_cmpR op_eq (C8.pe_c c_law_take hr (by decide) (by rfl) (pa_cons (pv 0) (pa_cons pe_int pa_nil))) pe_int (nomark _)) (pe_slice sl_list (C8.pe_c c_law_strewn hr (by decide) (by rfl) (pa_cons (pv 0) (pa_cons (pe_slice sl_list (pv 2) (po_some (pv 1)) po_none) pa_nil))) po_none (po_some pe_int)) (pe_slice sl_list (pe_slice sl_list (pv 2) (po_some (pe_op op_add (pv 1) (pe_op op_mul pe_int (pv 4)))) po_none) po_none (po_some pe_int))))
        (pss_cons (ps_set (i := 6) sc__law_sort_rows.nd rfl (Or.inl rfl) (C8.pe_c c_law_take hr (by decide) (by rfl) (pa_cons (pv 0) (pa_cons pe_int pa_nil))))
        (pss_one (ps_expr (pe_bm PySem.F.plainAttrs_list PySem.F.slot_list_append PySem.F.type_list_append mt_append (pv 3) (pa_cons (pe_tup (pa_cons (pe_ix ix_list (pv 2) (pv 4) (fun _ _ => rfl)) (pa_cons (pe_callTy call_tuple_of (by rfl) T.tuple (by decide +kernel) (pa_cons (pe_slice sl_list (pv 5) po_none (po_some (pv 6))) pa_nil)) (pa_cons (pe_callTy call_tuple_of (by rfl) T.tuple (by decide +kernel) (pa_cons (pe_slice sl_list (pv 5) (po_some (pv 6)) (po_some (pe_op op_add (pe_op op_add (pv 6) pe_int) (C8.pe_c c_law_take hr (by decide) (by rfl) (pa_cons (pv 0) (pa_cons pe_int pa_nil)))))) pa_nil)) pa_nil)))) pa_nil)))))))
        (pss_one (ps_ret (pv 3))))), ?_⟩
    refine ⟨_, rfl, _, rfl, _, _, rfl, rfl, a, many + 8, m, b, rfl, by omega, ha, hB, by omega, fun H1 ln ws b1 bt1 nln hln hwl hnd hws hb1 hB1 => ?_⟩
    refine ⟨by show 0 ≤ sizeLine; decide, fun l nl => ⟨_, _, rfl, ?_⟩⟩
    have g1 := same_upd (o := .lst []) nl
    have nla : l ≠ a := fun z => by
      rw [z, hb1] at nl
      cases nl
    have nlna : ln ≠ a := fun z => by
      rw [z, ha] at nln
      cases nln
    have nll : l ≠ ln := fun z => by
      rw [z, hln] at nl
      cases nl
    have nlH : H l = none := But.free bt1 hb1 nl
    refine ⟨_, rfl, _, rfl, by omega, by omega, ?_⟩
    refine for_range (lo := 0) (fun i σ X => ∃ y4 y5 y6 vs rs b', σ = [some (.ref a), some (.int many), some (.ref ln), some (.ref l), y4, y5, y6] ∧ But a H X ∧ X ln = some (.lst (nmV ws)) ∧ X l = some (.lst vs) ∧ DpAll K X vs (rs.map SRow.d) ∧ rs.length = i ∧ (∀ r ∈ rs, SOk r) ∧ rs.map SRow.nm = ws.take i ∧ X a = some (.lst b') ∧ BoxL (m + 10 * (many + 8) + 20 * i) b')
      ⟨none, none, none, [], [], b1, rfl, bt1.trans (But.of g1), g1 _ _ hln, upd_same, .nil, rfl, (fun r h => nomatch h), rfl, g1 _ _ hb1, hB1⟩ ?_ ?_
    · rintro i σ X hi ⟨y4, y5, y6, vs, rs, b2, rfl, btX, hlnX, hlX, hdX, hrl, hrs, hrn, hbX, hBX⟩
      rw [Int.zero_add]
      have hi4 : i < many := by omega
      have kX : ∀ {Y : Hp}, But a X Y → KeepT X Y := fun {Y} z => KeepT.but hbX z
      refine ⟨fun σ Y => ∃ ls us b3, σ = [some (.ref a), some (.int many), some (.ref ln), some (.ref l), some (.int (i : Nat)), some (.ref ls), y6] ∧ But a X Y ∧ Y ls = some (.lst (nmV us)) ∧ X ls = none ∧ us.Nodup ∧ (∀ w ∈ us, w ∈ ws) ∧ us.length ≤ 3 ∧ Y a = some (.lst b3) ∧ BoxL (m + 10 * (many + 8) + 20 * i + 15) b3, ?_, ?_⟩
      · refine ⟨_, rfl, a, 2, _, b2, rfl, hbX, hBX, by omega, by decide, by decide, fun r b3 r0 r1 hB3 => ⟨rfl, _, rfl, ?_⟩⟩
        have bX1 : But a X (upd X a (.lst b3)) := But.upd (But.refl a X)
        have ha1 : (upd X a (.lst b3)) a = some (.lst b3) := upd_same
        have hln1 := bX1 _ _ nlna hlnX
        obtain ⟨X1, e1⟩ : ∃ X1, X1 = upd X a (.lst b3) := ⟨_, rfl⟩
        rw [← e1] at bX1 ha1 hln1 ⊢
        by_cases h0 : r = 0
        · refine ifT (decide_eq_true (by rw [h0])) ?_
          refine ⟨_, rfl, _, rfl, _, rfl, _, rfl, ln, _, rfl, SqL.of hln1, fun c nc => ?_⟩
          rw [cutV_from, nmV_drop] 
          have g2 := same_upd (o := .lst (nmV (ws.drop many))) nc
          have nca : c ≠ a := fun z => by
            rw [z, ha1] at nc
            cases nc
          have ld : (nmV (ws.drop many)).length = 8 := by
            rw [nmV_len, List.length_drop]
            omega
          refine ⟨a, c, _, b3, _, rfl, g2 _ _ ha1, hB3, by omega, SqL.of upd_same, nca, by omega, fun Y ls0 ys b4 bt4 nls hls hperm hb4 hB4 => ?_⟩
          obtain ⟨us, eus, hp⟩ := perm_map hperm (ws.drop many) rfl
          have eus : ys = nmV us := eus
          subst eus
          refine ⟨3, rfl, ls0, _, rfl, SqL.of hls, fun c2 nc2 => ?_⟩
          have bXY : But a X Y := bX1.trans ((But.of g2).trans bt4)
          have hnd2 : us.Nodup := hp.nodup_iff.mpr (hnd.sublist (List.drop_sublist _ _))
          refine ⟨c2, us.take 3, b4, rfl, bXY.trans (But.of (same_upd nc2)), ?_, ?_, hnd2.sublist (List.take_sublist _ _), fun w hw => List.mem_of_mem_drop (hp.mem_iff.mp (List.mem_of_mem_take hw)), by rw [List.length_take]; omega, same_upd nc2 _ _ hb4, hB4.mono (by rw [ld]; omega)⟩
          · rw [upd_same, show (3 : Int) = ((3 : Nat) : Int) from rfl, cutV_to, nmV_take]
          · exact But.free bXY hb4 nc2
        · refine ifF (decide_eq_false fun y => h0 (V.int.inj y)) ?_
          refine ⟨_, rfl, _, rfl, _, rfl, _, _, rfl, rfl, .inl ⟨by decide, by decide⟩, _, _, rfl, rfl, _, rfl, ln, _, rfl, SqL.of hln1, fun c nc => ?_⟩
          have ec : cutV (nmV ws) (some ((many : Int) + 2 * (i : Int))) none = nmV (ws.drop (many + 2 * i)) := by
            rw [show (many : Int) + 2 * (i : Int) = ((many + 2 * i : Nat) : Int) by omega, cutV_from, nmV_drop]
          have g2 := same_upd (o := .lst (cutV (nmV ws) (some ((many : Int) + 2 * (i : Int))) none)) nc
          refine ⟨3, rfl, c, _, rfl, SqL.of upd_same, fun c2 nc2 => ?_⟩
          have bXY := bX1.trans (But.of (a := a) g2)
          refine ⟨c2, (ws.drop (many + 2 * i)).take 3, b3, rfl, bXY.trans (But.of (same_upd nc2)), ?_, ?_, (hnd.sublist (List.drop_sublist _ _)).sublist (List.take_sublist _ _), fun w hw => List.mem_of_mem_drop (List.mem_of_mem_take hw), by rw [List.length_take]; omega, same_upd nc2 _ _ (g2 _ _ ha1), hB3.mono (by omega)⟩
          · rw [upd_same, ec, show (3 : Int) = ((3 : Nat) : Int) from rfl, cutV_to, nmV_take]
          · exact But.free bXY (g2 _ _ ha1) nc2
      rintro σ Y ⟨ls, us, b3, rfl, bXY, hls, nls, hnu, hus, hul, hbY, hBY⟩
      have nlsa : ls ≠ a := fun z => by
        rw [z, hbX] at nls
        cases nls
      refine ⟨_, rfl, a, 3, _, b3, rfl, hbY, hBY, by omega, by decide, by decide, fun r5 b5 h5 h5' hB5 => ?_⟩
      obtain ⟨cut, rfl⟩ := Int.eq_ofNat_of_zero_le h5
      have bY1 : But a Y (upd Y a (.lst b5)) := But.upd (But.refl a Y)
      have ha1 : (upd Y a (.lst b5)) a = some (.lst b5) := upd_same
      obtain ⟨Y1, e1⟩ : ∃ Y1, Y1 = upd Y a (.lst b5) := ⟨_, rfl⟩
      rw [← e1] at bY1 ha1 ⊢
      have bXY1 := bXY.trans bY1
      have hlY1 := bXY1 _ _ nla hlX
      have hln1 := bXY1 _ _ nlna hlnX
      have hls1 := bY1 _ _ nlsa hls
      obtain ⟨w, hw⟩ : ∃ w, ws[i]? = some w := ⟨ws[i]'(by omega), List.getElem?_eq_getElem _⟩
      refine ⟨_, rfl, .inl ⟨rfl, _, SqL.of hlY1⟩, ?_⟩
      refine ⟨_, rfl, _, rfl, ln, _, _, _, rfl, rfl, SqL.of hln1, atI_nat (nmV_at hw), ?_⟩
      refine ⟨_, rfl, _, rfl, _, rfl, ls, _, rfl, SqL.of hls1, fun c1 nc1 => ⟨c1, _, rfl, .inl ⟨SqL.of upd_same, fun t1 nt1 => ?_⟩⟩⟩
      have e2 : cutV (nmV us) none (some (cut : Int)) = nmV (us.take cut) := by rw [cutV_to, nmV_take]
      have k1 := same_upd (o := .lst (cutV (nmV us) none (some (cut : Int)))) nc1
      have k2 := same_upd (o := .tup (cutV (nmV us) none (some (cut : Int)))) nt1
      have k12 := k1.trans k2
      have ht1 := upd_same (H := upd Y1 c1 (.lst (cutV (nmV us) none (some (cut : Int))))) (a := t1) (o := .tup (cutV (nmV us) none (some (cut : Int))))
      obtain ⟨Y2, eY2⟩ : ∃ Y2, Y2 = upd (upd Y1 c1 (.lst (cutV (nmV us) none (some (cut : Int))))) t1 (.tup (cutV (nmV us) none (some (cut : Int)))) := ⟨_, rfl⟩
      rw [← eY2] at k12 ht1 ⊢
      rw [e2] at ht1
      refine ⟨_, rfl, _, rfl, _, rfl, _, rfl, _, _, rfl, rfl, _, rfl, a, 2, _, b5, rfl, k12 _ _ ha1, hB5, by omega, by decide, by decide, fun r6 b6 h6 h6' hB6 => ?_⟩
      obtain ⟨x6, rfl⟩ := Int.eq_ofNat_of_zero_le h6
      have bY3 : But a Y2 (upd Y2 a (.lst b6)) := But.upd (But.refl a Y2)
      have ha3 : (upd Y2 a (.lst b6)) a = some (.lst b6) := upd_same
      have nt1a : t1 ≠ a := fun z => by
        have := k12 _ _ ha1
        rw [← z, ht1] at this
        cases this
      have ht3 := bY3 _ _ nt1a ht1
      obtain ⟨Y3, eY3⟩ : ∃ Y3, Y3 = upd Y2 a (.lst b6) := ⟨_, rfl⟩
      rw [← eY3] at bY3 ha3 ht3 ⊢
      have bY13 : But a Y1 Y3 := (But.of k12).trans bY3
      have hls3 := bY13 _ _ nlsa hls1
      refine ⟨_, _, rfl, rfl, _, rfl, ls, _, rfl, SqL.of hls3, fun c2 nc2 => ⟨c2, _, rfl, .inl ⟨SqL.of upd_same, fun t2 nt2 => ?_⟩⟩⟩
      have e3 : cutV (nmV us) (some (cut : Int)) (some ((cut : Int) + 1 + (x6 : Int))) = nmV ((us.drop cut).take (1 + x6)) := by
        rw [show (cut : Int) + 1 + (x6 : Int) = ((cut + 1 + x6 : Nat) : Int) by omega, cutV_nat, show cut + 1 + x6 - cut = 1 + x6 by omega, nmV_drop, nmV_take]
      have k3 := same_upd (o := .lst (cutV (nmV us) (some (cut : Int)) (some ((cut : Int) + 1 + (x6 : Int))))) nc2
      have k4 := same_upd (o := .tup (cutV (nmV us) (some (cut : Int)) (some ((cut : Int) + 1 + (x6 : Int))))) nt2
      refine ⟨by show 3 ≤ sizeLine; decide, fun t3 nt3 => ?_⟩
      have k5 := same_upd (o := .tup [.str (SX.S w), .ref t1, .ref t2]) nt3
      have k35 := (k3.trans k4).trans k5
      have ht2 := k5 _ _ (upd_same (H := upd Y3 c2 (.lst (cutV (nmV us) (some (cut : Int)) (some ((cut : Int) + 1 + (x6 : Int)))))) (a := t2) (o := .tup (cutV (nmV us) (some (cut : Int)) (some ((cut : Int) + 1 + (x6 : Int))))))
      have ht3' := upd_same (H := upd (upd Y3 c2 (.lst (cutV (nmV us) (some (cut : Int)) (some ((cut : Int) + 1 + (x6 : Int)))))) t2 (.tup (cutV (nmV us) (some (cut : Int)) (some ((cut : Int) + 1 + (x6 : Int)))))) (a := t3) (o := .tup [.str (SX.S w), .ref t1, .ref t2])
      obtain ⟨Y5, eY5⟩ : ∃ Y5, Y5 = upd (upd (upd Y3 c2 (.lst (cutV (nmV us) (some (cut : Int)) (some ((cut : Int) + 1 + (x6 : Int)))))) t2 (.tup (cutV (nmV us) (some (cut : Int)) (some ((cut : Int) + 1 + (x6 : Int)))))) t3 (.tup [.str (SX.S w), .ref t1, .ref t2]) := ⟨_, rfl⟩
      rw [← eY5] at k35 ht2 ht3' ⊢
      rw [e3] at ht2
      have bX5 : But a X Y5 := bXY1.trans (bY13.trans (But.of k35))
      have hl5 := bX5 _ _ nla hlX
      have lvs := dpAll_len hdX
      rw [List.length_map, hrl] at lvs
      refine ⟨l, vs, .ref t3, rfl, rfl, hl5, by rw [lvs]; exact small1000 (by omega), ?_⟩
      have kl : KeepT Y5 (upd Y5 l (.lst (vs ++ [.ref t3]))) := KeepT.at_ hl5 lst_no
      have dRow : Dp K Y5 (.ref t3) (SRow.d ⟨w, us.take cut, (us.drop cut).take (1 + x6)⟩) :=
        .tup (SqT.of ht3') (.cons (.str _) (.cons (.tup (SqT.of (k35 _ _ ht3)) (nm_dp _)) (.cons (.tup (SqT.of ht2) (nm_dp _)) .nil)))
      have okR : SOk ⟨w, us.take cut, (us.drop cut).take (1 + x6)⟩ := by
        have hsub : (us.take cut ++ (us.drop cut).take (1 + x6)).Sublist us := by
          have h1 : (us.take cut ++ (us.drop cut).take (1 + x6)).Sublist (us.take cut ++ us.drop cut) := List.Sublist.append (List.Sublist.refl _) (List.take_sublist _ _)
          rw [List.take_append_drop] at h1
          exact h1
        exact ⟨hws w (List.mem_of_getElem? hw), fun x hx => hws x (hus x (hsub.subset hx)), hnu.sublist hsub, by show (us.take cut).length ≤ 2; rw [List.length_take]; omega, by show ((us.drop cut).take (1 + x6)).length ≤ 2; rw [List.length_take]; omega⟩
      refine ⟨_, _, _, vs ++ [.ref t3], rs ++ [⟨w, us.take cut, (us.drop cut).take (1 + x6)⟩], b6, rfl, fun c o nc hc => ?_, ?_, upd_same, ?_, by rw [List.length_append, hrl]; rfl, fun r hr => ?_, ?_, ?_, hB6.mono (by omega)⟩
      · rw [upd_ne (ne_of_none hc nlH)]
        exact (btX.trans bX5) c o nc hc
      · rw [upd_ne nll.symm]
        exact bX5 _ _ nlna hlnX
      · rw [List.map_append]
        exact dpAll_appI (dpAll_imm ((kX bX5).trans kl) hdX (immAll_map SRow.imm rs)) (.cons (dp_imm kl dRow (SRow.imm _)) .nil)
      · rcases List.mem_append.mp hr with h | h
        · exact hrs r h
        · rw [List.mem_singleton.mp h]
          exact okR
      · rw [List.map_append, hrn, List.take_add_one, hw]
        rfl
      · rw [upd_ne nla.symm]
        exact k35 _ _ ha3
    · rintro σ X ⟨y4, y5, y6, vs, rs, b2, rfl, btX, hlnX, hlX, hdX, hrl, hrs, hrn, hbX, hBX⟩
      refine ⟨_, rfl, q X l vs rs b2 btX nlH hlX hdX (by omega) ⟨hrs, ?_, by omega⟩ hbX (hBX.mono (by omega))⟩
      rw [hrn]
      exact List.Nodup.sublist (List.take_sublist _ _) hnd
end
/-! ### slices and sums of tuples -/
def rSlAny (K : PySem.W.Frag) : V → Option Int → Option Int → Hp → VK → Prop := fun x lo hi H Q => ∃ (a : Addr) (xs : List V), x = .ref a ∧ SqT K H a xs ∧ ∀ (H' : Hp) (p : Addr), Same H H' → SqT K H' p (cutV xs lo hi) → Q (.ref p) H'
theorem cut_whole {xs : List V} {lo hi : Option Int} (h : HT.sIx xs.length 0 lo = 0 ∧ HT.sIx xs.length xs.length hi = xs.length) : cutV xs lo hi = xs := by
  unfold cutV
  rw [h.1, h.2, List.drop_zero, Nat.sub_zero, List.take_length]
theorem sl_any {X : Cx} : SlR X (rSlAny X.K) := by
  intro pins s σ H x v vl vu lo hi sl Q I rx hs pl pu h
  obtain ⟨a, xs, ex, hS, q⟩ := h
  exact sl_tupA pins s σ H x v vl vu lo hi sl Q I rx hs pl pu ⟨a, xs, ex, hS, fun e => q H a (Same.refl H) (by rw [cut_whole e]; exact hS), fun _ p np => q _ p (same_upd np) (SqT.of upd_same)⟩
theorem dp_int {K : PySem.W.Frag} {H : Hp} {x : V} {j : Int} (h : Dp K H x (.int j)) : x = .int j := by
  cases h
  rfl
def rCatAny (K : PySem.W.Frag) : V → V → Hp → VK → Prop := fun x y H Q => ∃ (a b : Addr) (xs ys : List V), x = .ref a ∧ y = .ref b ∧ SqT K H a xs ∧ SqT K H b ys ∧ xs.length + ys.length ≤ sizeLine ∧ ∀ (H' : Hp) (p : Addr), Same H H' → SqT K H' p (xs ++ ys) → Q (.ref p) H'
theorem op_catAny {X : Cx} : OpR X (binaryOp .Add) (rCatAny X.K) := by
  intro pins s σ H x y v u Q I rx ry h
  obtain ⟨a, b, xs, ys, ex, ey, hX, hY, hl, q⟩ := h
  refine op_catA pins s σ H x y v u Q I rx ry ⟨a, b, xs, ys, ex, ey, hX, hY, hl, fun e => q H b (Same.refl H) (by rw [e]; exact hY), fun _ e => q H a (Same.refl H) (by rw [e, List.append_nil]; exact hX), fun _ _ p np => q _ p (same_upd np) (SqT.of upd_same)⟩
/-! ### rows of a grammar -/
structure MRow where
  nm : List Nat
  so : List Nat
  pt : List (List Nat)
def MRow.d (r : MRow) : PyData := .tuple [strD r.nm, strD r.so, .tuple (r.pt.map strD)]
def MRow.places (r : MRow) : List (List Nat) := r.so :: r.pt
inductive En where
  | sp (p : Nat) (w : List Nat)
  | kept (w : List Nat)
  deriving DecidableEq
def En.d : En → PyData
  | .sp p w => .tuple [.str "at", .int (p : Nat), strD w]
  | .kept w => .tuple [.str "kept", strD w]
inductive Od where
  | en (e : En)
  | own
  | num (n : Nat)
def Od.d : Od → PyData
  | .en e => e.d
  | .own => .tuple [.str "own"]
  | .num n => .tuple [.str "number", .int (n : Nat)]
structure RRow where
  ma : List Nat
  tg : En
  op : List Nat
  os : List Od
def RRow.d (r : RRow) : PyData := .tuple [strD r.ma, r.tg.d, strD r.op, .tuple (r.os.map Od.d)]
theorem MRow.imm (r : MRow) : Thr.imm r.d = true := by
  show (true && (true && (immAll (r.pt.map strD) && true))) = true
  rw [immAll_map strD_imm]
  rfl
theorem En.imm (e : En) : Thr.imm e.d = true := by cases e <;> rfl
theorem Od.imm (o : Od) : Thr.imm o.d = true := by
  cases o with
  | en e => exact e.imm
  | own => rfl
  | num n => rfl
theorem RRow.imm (r : RRow) : Thr.imm r.d = true := by
  show (true && (Thr.imm r.tg.d && (true && (immAll (r.os.map Od.d) && true)))) = true
  rw [r.tg.imm, immAll_map Od.imm]
  rfl
/-- a worth of a place -/
def AtOf (rs : List SRow) (mr : MRow) (p : Nat) (w : List Nat) (up : Bool) : Prop := ∃ k r, mr.places[p]? = some k ∧ r ∈ rs ∧ r.nm = k ∧ w ∈ (if up then r.up else r.dn)
def KeptOk (rs : List SRow) (mr : MRow) (w : List Nat) : Prop := NmOk w ∧ ∀ r ∈ rs, r.nm = mr.so → w ∉ r.dn ++ r.up
/-- what a rule may have as its target -/
def TgOk (rs : List SRow) (mr : MRow) : En → Prop
  | .sp p w => AtOf rs mr p w (decide (p = 0))
  | .kept w => KeptOk rs mr w
/-- what it may need -/
def FrOk (rs : List SRow) (mr : MRow) : En → Prop
  | .sp p w => AtOf rs mr p w (!decide (p = 0))
  | .kept w => KeptOk rs mr w
def OdOk (rs : List SRow) (mr : MRow) : Od → Prop
  | .en e => FrOk rs mr e
  | .own => True
  | .num n => n < 1000000
def sl (s : String) : List Nat := (Str.ofString s).cps.toList
theorem sl_S (s : String) : SX.S (sl s) = Str.ofString s := SX.S_tl _
def OPS4 : List (List Nat) := [sl "copy", sl "plus", sl "least", sl "most"]
def OPS8 : List (List Nat) := [sl "plus", sl "less", sl "times", sl "over", sl "rest", sl "same", sl "under", sl "pick"]
def opsOf (roof : Nat) : List (List Nat) := if roof = 0 then OPS4 ++ OPS8 else OPS4
def arOf (op : List Nat) : Nat := if op = sl "copy" then 1 else if op = sl "pick" then 3 else 2
def enName : En → List (List Nat)
  | .sp _ _ => []
  | .kept w => [w]
def odName : Od → List (List Nat)
  | .en e => enName e
  | _ => []
structure RulesOk (rs : List SRow) (mr : MRow) (roof : Nat) (ks : List (List Nat)) (ru : List RRow) : Prop where
  ma : ∀ r ∈ ru, r.ma = mr.nm
  tg : ∀ r ∈ ru, TgOk rs mr r.tg
  nd : (ru.map RRow.tg).Nodup
  op : ∀ r ∈ ru, r.op ∈ opsOf roof
  ar : ∀ r ∈ ru, r.os.length = arOf r.op
  os : ∀ r ∈ ru, ∀ o ∈ r.os, OdOk rs mr o
  k2 : ks.length ≤ 2
  kt : ∀ r ∈ ru, ∀ w ∈ enName r.tg, w ∈ ks
  ko : ∀ r ∈ ru, ∀ o ∈ r.os, ∀ w ∈ odName o, w ∈ ks
  le : ru.length ≤ 30
/-- what rules are made by -/
structure Cxt (K : PySem.W.Frag) (H : Hp) (a gd ph : Addr) (rowv wv : V) (rs : List SRow) (mr : MRow) (roof : Nat) (wb : Bool) (wn : Nat) (phs : List Nat → List (List Nat)) : Prop where
  g : ∃ kvs of ofk, H gd = some (.dK kvs) ∧ valV kvs (Sum.inr "cap") = some (.int (roof : Nat)) ∧ valV kvs (Sum.inr "of") = some (.ref of) ∧ H of = some (.dK ofk) ∧
    ∀ r ∈ rs, ∃ v, valV ofk (Sum.inr (SX.S r.nm)) = some v ∧ Dp K H v (.tuple [.tuple (r.dn.map strD), .tuple (r.up.map strD)])
  p : ∃ phk, H ph = some (.dK phk) ∧ ∀ r ∈ rs, ∃ pl, valV phk (Sum.inr (SX.S r.nm)) = some (.ref pl) ∧ pl ≠ a ∧ H pl = some (.lst (nmV (phs r.nm))) ∧ (phs r.nm).Perm (r.dn ++ r.up)
  row : Dp K H rowv mr.d
  wl : Dp K H wv (.tuple [.bool wb, .int (wn : Nat)])
  w0 : 0 < wn
  w1 : wn < 1000000
  sok : SortsOk rs
  so : ∀ k ∈ mr.places, ∃ r ∈ rs, r.nm = k
  p2 : mr.pt.length ≤ 2
  rf : roof ≤ 9
theorem Cxt.but {K : PySem.W.Frag} {H H' : Hp} {a gd ph : Addr} {rowv wv : V} {rs : List SRow} {mr : MRow} {roof : Nat} {wb : Bool} {wn : Nat} {phs : List Nat → List (List Nat)} {b : List V} (c : Cxt K H a gd ph rowv wv rs mr roof wb wn phs) (ha : H a = some (.lst b)) (t : But a H H') :
    Cxt K H' a gd ph rowv wv rs mr roof wb wn phs := by
  have k := KeepT.but ha t
  have nd : ∀ {d : Addr} {kv : List (Key × V)}, H d = some (.dK kv) → d ≠ a := fun {d kv} h z => by
    rw [z, ha] at h
    cases h
  obtain ⟨kvs, of, ofk, g1, g2, g3, g4, g5⟩ := c.g
  obtain ⟨phk, p1, p2⟩ := c.p
  refine ⟨⟨kvs, of, ofk, t _ _ (nd g1) g1, g2, g3, t _ _ (nd g4) g4, fun r hr => ?_⟩, ⟨phk, t _ _ (nd p1) p1, fun r hr => ?_⟩, dp_imm k c.row mr.imm, dp_imm k c.wl rfl, c.w0, c.w1, c.sok, c.so, c.p2, c.rf⟩
  · obtain ⟨v, h1, h2⟩ := g5 r hr
    refine ⟨v, h1, dp_imm k h2 ?_⟩
    show (immAll (r.dn.map strD) && (immAll (r.up.map strD) && true)) = true
    rw [immAll_map strD_imm, immAll_map strD_imm]
    rfl
  · obtain ⟨pl, h1, h2, h3, h4⟩ := p2 r hr
    exact ⟨pl, h1, h2, t _ _ h2 h3, h4⟩
/-- a row on the heap -/
theorem row_at {K : PySem.W.Frag} {H : Hp} {v : V} {mr : MRow} (h : Dp K H v mr.d) : ∃ q t, v = .ref q ∧ SqT K H q [.str (SX.S mr.nm), .str (SX.S mr.so), .ref t] ∧ SqT K H t (nmV mr.pt) := by
  cases h with
  | tup hS hA =>
    cases hA with
    | cons a1 hA =>
      cases hA with
      | cons a2 hA =>
        cases hA with
        | cons a3 hA =>
          cases hA
          cases a1
          cases a2
          cases a3 with
          | tup hS3 hA3 =>
            refine ⟨_, _, rfl, hS, ?_⟩
            have : ∀ {xs : List V} {ws : List (List Nat)}, DpAll K H xs (ws.map strD) → xs = nmV ws := fun {xs ws} => by
              induction ws generalizing xs with
              | nil => intro h; cases h; rfl
              | cons i is ih =>
                intro h
                cases h with
                | cons a b =>
                  cases a
                  rw [ih b]
                  rfl
            rw [← this hA3]
            exact hS3
theorem names_of {K : PySem.W.Frag} {H : Hp} {xs : List V} {ws : List (List Nat)} (h : DpAll K H xs (ws.map strD)) : xs = nmV ws := by
  induction ws generalizing xs with
  | nil => cases h; rfl
  | cons i is ih =>
    cases h with
    | cons a b =>
      cases a
      rw [ih b]
      rfl
def spRules (K : PySem.W.Frag) : Sp := fun vs H Q _ => ∃ (a gd ph : Addr) (rowv wv : V) (rs : List SRow) (mr : MRow) (roof : Nat) (wb : Bool) (wn : Nat) (phs : List Nat → List (List Nat)) (m : Nat) (b : List V), vs = [.ref a, .ref gd, rowv, .ref ph, wv] ∧ Cxt K H a gd ph rowv wv rs mr roof wb wn phs ∧ H a = some (.lst b) ∧ BoxL m b ∧ m + 700 < 900000 ∧
  ∀ (H' : Hp) (l : Addr) (vs' : List V) (ru : List RRow) (ks : List (List Nat)) (b' : List V), But a H H' → H l = none → H' l = some (.lst vs') → DpAll K H' vs' (ru.map RRow.d) → RulesOk rs mr roof ks ru → H' a = some (.lst b') → BoxL (m + 700) b' → Q (.ref l) H'
theorem dpAll_take {K : PySem.W.Frag} {H : Hp} : ∀ {vs : List V} {ds : List PyData} (k : Nat), DpAll K H vs ds → DpAll K H (vs.take k) (ds.take k)
  | _, _, 0, _ => .nil
  | _, _, k + 1, .nil => .nil
  | _, _, k + 1, .cons h a => .cons h (dpAll_take k a)
theorem dpAll_drop {K : PySem.W.Frag} {H : Hp} : ∀ {vs : List V} {ds : List PyData} (k : Nat), DpAll K H vs ds → DpAll K H (vs.drop k) (ds.drop k)
  | _, _, 0, h => h
  | _, _, k + 1, .nil => .nil
  | _, _, k + 1, .cons _ a => dpAll_drop k a
theorem ins_perm {α : Type} (xs : List α) (x : α) (k : Nat) : (xs.take k ++ [x] ++ xs.drop k).Perm (x :: xs) := by
  have h : (xs.take k ++ [x] ++ xs.drop k).Perm ([x] ++ xs.take k ++ xs.drop k) := List.Perm.append_right _ List.perm_append_comm
  rw [List.append_assoc [x], List.take_append_drop] at h
  exact h
/-- an end of the making -/
def EnOk (rs : List SRow) (mr : MRow) (ks : List (List Nat)) : En → Prop
  | .sp p w => ∃ k r, mr.places[p]? = some k ∧ r ∈ rs ∧ r.nm = k ∧ w ∈ r.dn ++ r.up
  | .kept w => KeptOk rs mr w ∧ w ∈ ks
theorem EnOk.mono {rs : List SRow} {mr : MRow} {ks ks' : List (List Nat)} (h : ∀ w ∈ ks, w ∈ ks') {e : En} (x : EnOk rs mr ks e) : EnOk rs mr ks' e := by
  cases e with
  | sp p w => exact x
  | kept w => exact ⟨x.1, h w x.2⟩
def NmSmall (w : List Nat) : Prop := ∀ c ∈ w, c < 128
theorem nm_small {w : List Nat} (h : NmOk w) : NmSmall w := fun c hc => by
  have := h.1.2.2 c hc
  unfold isLet at this
  simp only [Bool.and_eq_true, decide_eq_true_eq] at this
  omega
theorem str_ok {w : List Nat} (h : NmSmall w) : PyData.strOk (SX.S w) = true := by
  unfold PyData.strOk
  rw [Array.all_eq_true']
  intro c hc
  have : c ∈ w := by simpa using hc
  have := h c this
  exact decide_eq_true (by omega)
def enW : En → List Nat
  | .sp _ w => w
  | .kept w => w
theorem en_lay {e : En} (h : NmSmall (enW e)) : e.d.canLay0 = true ∧ e.d.depth = 1 := by
  cases e with
  | sp p w =>
    refine ⟨?_, rfl⟩
    show (PyData.strOk "at" && (true && (PyData.strOk (SX.S w) && true))) = true
    rw [show PyData.strOk (SX.S w) = true from str_ok h]
    decide +kernel
  | kept w =>
    refine ⟨?_, rfl⟩
    show (PyData.strOk "kept" && (PyData.strOk (SX.S w) && true)) = true
    rw [show PyData.strOk (SX.S w) = true from str_ok h]
    decide +kernel
theorem en_shape {e : En} (h : NmSmall (enW e)) : SeqAt.shaped e.d = true := by
  obtain ⟨h1, h2⟩ := en_lay h
  unfold SeqAt.shaped
  rw [h1, h2]
  rfl
theorem ens_lay : ∀ {es : List En}, (∀ e ∈ es, NmSmall (enW e)) → PyData.canLayAll0 (es.map En.d) = true ∧ PyData.depthAll (es.map En.d) ≤ 1
  | [], _ => ⟨rfl, Nat.zero_le _⟩
  | e :: es, h => by
    obtain ⟨h1, h2⟩ := en_lay (h e (List.mem_cons_self ..))
    obtain ⟨h3, h4⟩ := ens_lay (es := es) fun x hx => h x (List.mem_cons_of_mem _ hx)
    refine ⟨?_, ?_⟩
    · show (PyData.canLay0 e.d && PyData.canLayAll0 (es.map En.d)) = true
      rw [h1, h3]
      rfl
    · show max (PyData.depth e.d) (PyData.depthAll (es.map En.d)) ≤ 1
      omega
theorem ens_shape {es : List En} (h : ∀ e ∈ es, NmSmall (enW e)) : SeqAt.shaped (.list (es.map En.d)) = true := by
  obtain ⟨h1, h2⟩ := ens_lay h
  unfold SeqAt.shaped
  rw [show PyData.canLay0 (.list (es.map En.d)) = true from h1, decide_eq_true (show PyData.depth (.list (es.map En.d)) ≤ 64 from by
    show PyData.depthAll (es.map En.d) + 1 ≤ 64
    omega)]
  rfl
theorem en_eqv (e e' : En) : PyData.eqv e.d e'.d = decide (e = e') := by
  have hs : ∀ a b : List Nat, ((SX.S a : Str) == SX.S b) = decide (a = b) := fun a b => SX.S_beq_eq
  cases e with
  | sp p w =>
    cases e' with
    | sp p' w' =>
      show ((Str.ofString "at" == Str.ofString "at") && ((((p : Nat) : Int) == ((p' : Nat) : Int)) && ((SX.S w == SX.S w') && true))) = _
      rw [show (Str.ofString "at" == Str.ofString "at") = true by decide +kernel, hs w w', Bool.and_true, Bool.true_and, Bool.eq_iff_iff, Bool.and_eq_true, decide_eq_true_eq, decide_eq_true_eq, beq_iff_eq]
      constructor
      · rintro ⟨h1, h2⟩
        rw [Int.ofNat_inj.mp h1, h2]
      · intro h
        cases h
        exact ⟨rfl, rfl⟩
    | kept w' =>
      show ((Str.ofString "at" == Str.ofString "kept") && PyData.eqvAll [.int ((p : Nat) : Int), strD w] [strD w']) = _
      rw [show (Str.ofString "at" == Str.ofString "kept") = false by decide +kernel, Bool.false_and]
      rfl
  | kept w =>
    cases e' with
    | sp p' w' =>
      show ((Str.ofString "kept" == Str.ofString "at") && PyData.eqvAll [strD w] [.int ((p' : Nat) : Int), strD w']) = _
      rw [show (Str.ofString "kept" == Str.ofString "at") = false by decide +kernel, Bool.false_and]
      rfl
    | kept w' =>
      show ((Str.ofString "kept" == Str.ofString "kept") && ((SX.S w == SX.S w') && true)) = _
      rw [show (Str.ofString "kept" == Str.ofString "kept") = true by decide +kernel, hs w w', Bool.and_true, Bool.true_and, Bool.eq_iff_iff, decide_eq_true_eq, decide_eq_true_eq]
      constructor
      · intro h
        rw [h]
      · intro h
        cases h
        rfl
theorem ens_any (e : En) : ∀ es : List En, ((es.map En.d).any fun z => PyData.eqv z e.d) = decide (e ∈ es)
  | [] => rfl
  | x :: es => by
    rw [List.map_cons, List.any_cons, en_eqv, ens_any e es, Bool.eq_iff_iff, Bool.or_eq_true, decide_eq_true_eq, decide_eq_true_eq, decide_eq_true_eq, List.mem_cons]
    exact ⟨fun h => h.elim (fun z => .inl z.symm) .inr, fun h => h.elim (fun z => .inl z.symm) .inr⟩
theorem ens_nil (es : List En) : PyData.eqv (.list (es.map En.d)) (.list []) = decide (es = []) := by
  cases es <;> rfl
/-- an end on the heap -/
theorem en_at {K : PySem.W.Frag} {H : Hp} {v : V} {e : En} (h : Dp K H v e.d) : ∃ q, v = .ref q ∧ match e with
    | .sp p w => SqT K H q [.str "at", .int (p : Nat), .str (SX.S w)]
    | .kept w => SqT K H q [.str "kept", .str (SX.S w)] := by
  cases e with
  | sp p w =>
    cases h with
    | tup hS hA =>
      cases hA with
      | cons a1 hA =>
        cases hA with
        | cons a2 hA =>
          cases hA with
          | cons a3 hA =>
            cases hA
            cases a1
            cases a2
            cases a3
            exact ⟨_, rfl, hS⟩
  | kept w =>
    cases h with
    | tup hS hA =>
      cases hA with
      | cons a1 hA =>
        cases hA with
        | cons a2 hA =>
          cases hA
          cases a1
          cases a2
          exact ⟨_, rfl, hS⟩
theorem cutV_back (xs : List V) (k : Nat) : cutV xs (some (-1 - (k : Int))) none = xs.drop (xs.length - (k + 1)) := by
  unfold cutV
  rw [HT.sIx_none]
  have e : HT.sIx xs.length 0 (some (-1 - (k : Int))) = xs.length - (k + 1) := by
    show (if (-1 - (k : Int)) < 0 then ((-1 - (k : Int)) + (xs.length : Int)).toNat else min (-1 - (k : Int)).toNat xs.length) = _
    rw [if_pos (by omega)]
    omega
  rw [e, List.take_of_length_le (by rw [List.length_drop]; exact Nat.le_refl _)]
abbrev s__law_rules_for : Stmt := top 66
abbrev N__law_rules_for : List Str := ["_law_box", "_law_g", "_law_row", "_law_phases", "_law_wild", "_law_places", "_law_ends", "_law_rules", "_law_known", "_law_ops", "_law_at", "_law_place", "_law_name", "_law_free", "_law_end", "_law_op", "_law_some", "_law_operands", "_law_turn", "_law_way", "_law_one", "_law_worth"]
abbrev P__law_rules_for : List Str := ["_law_box", "_law_g", "_law_row", "_law_phases", "_law_wild"]
theorem sc__law_rules_for : FnScope N__law_rules_for P__law_rules_for (defScope s__law_rules_for) := ⟨rfl, rfl, rfl, by decide +kernel, rfl, by decide +kernel, by decide +kernel⟩
theorem hu65 {k : Nat} {A : Around} (r : Room k A) : A.units + 65 < cLine := by
  have := r.un
  omega
structure Ru (mg : Str → Option Value) : Prop where
  range : mg "range" = none
  list : mg "list" = none
  len : mg "len" = none
  int : mg "int" = none
  tuple : mg "tuple" = none
/-- what stands beside the ends -/
structure Lc (K : PySem.W.Frag) (H X : Hp) (a pt lr lk lo : Addr) (mr : MRow) (ops : List (List Nat)) : Prop where
  bt : But a H X
  pt : SqT K X pt (nmV mr.places)
  lr : X lr = some (.lst [])
  lk : X lk = some (.lst [])
  lo : X lo = some (.lst (nmV ops))
theorem Lc.go {K : PySem.W.Frag} {H X Y : Hp} {a pt lr lk lo : Addr} {mr : MRow} {ops : List (List Nat)} {b : List V} (h : Lc K H X a pt lr lk lo mr ops) (hb : X a = some (.lst b)) (nr : lr ≠ a) (nk : lk ≠ a) (no : lo ≠ a) (t : But a X Y) : Lc K H Y a pt lr lk lo mr ops :=
  ⟨h.bt.trans t, (KeepT.but hb t).seqT h.pt, t _ _ nr h.lr, t _ _ nk h.lk, t _ _ no h.lo⟩
/-- an end as it was drawn: so many rounds, these places in the last one -/
def Drawn (mr : MRow) (phs : List Nat → List (List Nat)) (i : Nat) (done : List Nat) : En → Prop
  | .sp p w => ∃ k t, mr.places[p]? = some k ∧ (phs k)[t]? = some w ∧ (t < i ∨ t = i ∧ p ∈ done)
  | .kept _ => False
/-- while the rules are drawn -/
structure Ls (K : PySem.W.Frag) (H Y : Hp) (a le lo lf : Addr) (vs us : List V) (es fs : List En) (ops : List (List Nat)) : Prop where
  bt : But a H Y
  le : Y le = some (.lst vs)
  de : DpAll K Y vs (es.map En.d)
  lf : Y lf = some (.lst us)
  df : DpAll K Y us (fs.map En.d)
  lo : Y lo = some (.lst (nmV ops))
theorem Ls.go {K : PySem.W.Frag} {H Y Z : Hp} {a le lo lf : Addr} {vs us b : List V} {es fs : List En} {ops : List (List Nat)} (h : Ls K H Y a le lo lf vs us es fs ops) (hb : Y a = some (.lst b)) (ne : le ≠ a) (nf : lf ≠ a) (no : lo ≠ a) (t : But a Y Z) : Ls K H Z a le lo lf vs us es fs ops :=
  have k := KeepT.but hb t
  ⟨h.bt.trans t, t _ _ ne h.le, dpAll_imm k h.de (immAll_map En.imm es), t _ _ nf h.lf, dpAll_imm k h.df (immAll_map En.imm fs), t _ _ no h.lo⟩
theorem Ls.put {K : PySem.W.Frag} {H Y : Hp} {a le lo lf r : Addr} {vs us rv rv' : List V} {es fs : List En} {ops : List (List Nat)} (h : Ls K H Y a le lo lf vs us es fs ops) (hr : Y r = some (.lst rv)) (ne : le ≠ r) (nf : lf ≠ r) (no : lo ≠ r) (nH : H r = none) : Ls K H (upd Y r (.lst rv')) a le lo lf vs us es fs ops := by
  have k : KeepT Y (upd Y r (.lst rv')) := KeepT.at_ hr lst_no
  refine ⟨fun c o nc hc => ?_, ?_, dpAll_imm k h.de (immAll_map En.imm es), ?_, dpAll_imm k h.df (immAll_map En.imm fs), ?_⟩
  · rw [upd_ne (ne_of_none hc nH)]
    exact h.bt c o nc hc
  · rw [upd_ne ne]; exact h.le
  · rw [upd_ne nf]; exact h.lf
  · rw [upd_ne no]; exact h.lo
/-- the rules so far, and what is known -/
structure Rst (rs : List SRow) (mr : MRow) (roof : Nat) (ks : List (List Nat)) (es fs : List En) (i j : Nat) (ru : List RRow) (kn : List En) : Prop where
  sub : (ru.map RRow.tg).Sublist (es.take j)
  ok : ∀ r ∈ ru, r.ma = mr.nm ∧ TgOk rs mr r.tg ∧ r.op ∈ opsOf roof ∧ r.os.length = arOf r.op ∧ ∀ o ∈ r.os, OdOk rs mr o ∧ ∀ w ∈ odName o, w ∈ ks
  kf : ∀ e ∈ kn, e ∈ fs
  kl : kn.length ≤ i
theorem dpAll_look {K : PySem.W.Frag} {H : Hp} {vs : List V} {es : List En} {i : Nat} {x : V} {e : En} (h : DpAll K H vs (es.map En.d)) (hx : vs[i]? = some x) (he : es[i]? = some e) : Dp K H x e.d := by
  obtain ⟨dd, hdd, hxd⟩ := dpAll_at h hx
  rw [List.getElem?_map, he] at hdd
  cases hdd
  exact hxd
def isK : En → Bool
  | .sp _ _ => false
  | .kept _ => true
theorem ifs_or {t1 t2 t3 : TT} {A B : TS} {D : Ends} {σ : L2.St} {H : Hp} {c1 c2 : Bool} (h1 : ∀ Q : Bool → Hp → Prop, (∀ c, c = c1 → Q c H) → t1 σ H Q) (h2 : ∀ Q : Bool → Hp → Prop, (∀ c, c = c2 → Q c H) → t2 σ H Q)
    (hA : (c1 || c2) = true → tIfS t3 A B D σ H) (hB : (c1 || c2) = false → B D σ H) : tIfS (tAnd (tOr t1 t2) t3) A B D σ H := by
  refine h1 _ ?_
  intro c hc
  rw [hc]
  cases c1 with
  | true => exact iteT (iteT (hA rfl))
  | false =>
    show t2 σ H _
    refine h2 _ ?_
    intro c hc
    rw [hc]
    cases c2 with
    | true => exact iteT (hA rfl)
    | false => exact hB rfl
theorem if_some {c : Bool} {ta tb : TE} {Q : VK} {σ : L2.St} {H : Hp} {u v : V} (ha : ∀ Q : VK, Q u H → ta σ H Q) (hb : ∀ Q : VK, Q v H → tb σ H Q) (h : Q (if c = true then u else v) H) : if c = true then ta σ H Q else tb σ H Q := by
  cases c with
  | true => exact ha _ h
  | false => exact hb _ h
theorem wild_at {K : PySem.W.Frag} {H : Hp} {v : V} {wb : Bool} {wn : Nat} (h : Dp K H v (.tuple [.bool wb, .int (wn : Nat)])) : ∃ q, v = .ref q ∧ SqT K H q [.bl wb, .int (wn : Nat)] := by
  cases h with
  | tup hS hA =>
    cases hA with
    | cons a1 hA =>
      cases hA with
      | cons a2 hA =>
        cases hA
        cases a1
        cases a2
        exact ⟨_, rfl, hS⟩
def AR : List (Key × V) := [(Sum.inr "copy", .int 1), (Sum.inr "pick", .int 3)]
theorem ar_get {roof : Nat} {op : List Nat} (h : op ∈ opsOf roof) : (valV (mergeK [] AR) (Sum.inr (SX.S op))).getD (.int 2) = .int ((arOf op : Nat) : Int) := by
  have h' : op ∈ OPS4 ++ OPS8 := by
    unfold opsOf at h
    split at h
    · exact h
    · exact List.mem_append_left _ h
  simp only [OPS4, OPS8, List.cons_append, List.nil_append, List.mem_cons, List.not_mem_nil, or_false] at h'
  rcases h' with rfl | rfl | rfl | rfl | rfl | rfl | rfl | rfl | rfl | rfl | rfl | rfl <;> (rw [sl_S]; rfl)
theorem ar_le (op : List Nat) : arOf op ≤ 3 := by
  unfold arOf
  split
  · decide
  · split <;> decide
theorem ops_len (roof : Nat) : 0 < (opsOf roof).length ∧ (opsOf roof).length ≤ 12 := by
  unfold opsOf
  split <;> exact ⟨by decide, by decide⟩
section
variable {P : Program} {w : World} {K : PySem.W.Frag} {mg : Str → Option Value} {base : Heap}
theorem ok_rules_for (T : Ru mg) (c_law_take : C8.Cal P w K mg base 1 "_law_take" spTake []) (c_law_named : C8.Cal P w K mg base 2 "_law_named" spNamed []) (c_law_strewn : C8.Cal P w K mg base 2 "_law_strewn" (spStrewn K) []) (c_law_one_of : C8.Cal P w K mg base 2 "_law_one_of" (spOneOf K) []) (c_law_number : C8.Cal P w K mg base 2 "_law_number" spNumber [])
    (D : Dd K mg "_law_rules_for" s__law_rules_for P__law_rules_for) : C8.Cal P w K mg base 3 "_law_rules_for" (spRules K) [] := by
  refine D.cal sc__law_rules_for (fun vs H Q E h => ?_) (fun f cdv A outer s H vs Q E hr h => ?_)
  · obtain ⟨a, gd, ph, rowv, wv, rs, mr, roof, wb, wn, phs, m, b, rfl, _⟩ := h
    rfl
  · obtain ⟨a, gd, ph, rowv, wv, rs, mr, roof, wb, wn, phs, m, b, rfl, cx, ha, hB, hm, q⟩ := h
    refine ⟨_, (C8.pss_cut (ps_asg (pe_tup (pa_cons (pe_op op_catAny (pe_tup (pa_cons (pe_ix ix_tup (pv 2) pe_int (fun _ _ => rfl)) pa_nil)) (pe_ix ix_tup (pv 2) pe_int (fun _ _ => rfl))) (pa_cons (pe_lst pa_nil) (pa_cons (pe_lst pa_nil) (pa_cons (pe_lst pa_nil) (pa_cons (pe_lst (pa_cons pe_str (pa_cons pe_str (pa_cons pe_str (pa_cons pe_str pa_nil))))) pa_nil)))))) (pg_tup rfl (pgs_cons (pg_name (i := 5) sc__law_rules_for.nd rfl (Or.inr rfl)) (pgs_cons (pg_name (i := 6) sc__law_rules_for.nd rfl (Or.inl rfl)) (pgs_cons (pg_name (i := 7) sc__law_rules_for.nd rfl (Or.inl rfl)) (pgs_cons (pg_name (i := 8) sc__law_rules_for.nd rfl (Or.inl rfl)) (pgs_cons (pg_name (i := 9) sc__law_rules_for.nd rfl (Or.inl rfl)) pgs_nil)))))))
        (C8.pss_cut (ps_if (pt_cmpR op_eq (pe_dget (hu_of hr) (pv 1) pe_str (fun _ _ => rfl)) pe_int (nomark _))
          (pss_one (ps_set (i := 9) sc__law_rules_for.nd rfl (Or.inl rfl) (pe_op op_cat (pv 9) (pe_lst (pa_cons pe_str (pa_cons pe_str (pa_cons pe_str (pa_cons pe_str (pa_cons pe_str (pa_cons pe_str (pa_cons pe_str (pa_cons pe_str pa_nil))))))))))))
          pss_nil)
        (C8.pss_cut (ps_for PassesOwn.never rfl (pi_range1 rfl T.range (pa_cons pe_int pa_nil)) (pg_name (i := 10) sc__law_rules_for.nd rfl (Or.inl rfl))
          (pss_one (ps_for PassesOwn.never rfl (pi_list (C8.pe_c c_law_strewn hr (by decide) (by rfl) (pa_cons (pv 0) (pa_cons (pe_listRg rfl (by rfl) T.list (prg_1 (by rfl) T.range (pe_callB call_len_seq (by rfl) T.len PySem.boot_len (pa_cons (pv 5) pa_nil)))) pa_nil)))) (pg_name (i := 11) sc__law_rules_for.nd rfl (Or.inr rfl))
          (pss_one (ps_set (i := 6) sc__law_rules_for.nd rfl (Or.inl rfl) (pe_op op_cat (pv 6) (pe_lc (own := [("_law_worth", 21)]) (by exact rfl) sc__law_rules_for.nd (pi_list (pe_slice sl_list (pe_dget (hu_of hr) (pv 3) (pe_ix ix_tup (pv 5) (pv 11) (fun _ _ => rfl)) (fun _ _ => rfl)) (po_some (pv 10)) (po_some (pe_op op_add (pv 10) pe_int)))) (blkOk_by (own := [("_law_worth", 21)]) (N := N__law_rules_for) (sc := defScope s__law_rules_for) (by decide +kernel)) (fun _ _ _ _ _ => (pg_name (i := 21) sc__law_rules_for.nd rfl (Or.inl rfl))) (fun _ _ _ _ _ => pts_nil) (fun _ _ _ _ _ => (pe_tup (pa_cons pe_str (pa_cons (pv 11) (pa_cons (pv 21) pa_nil))))))))))))
        (C8.pss_cut (ps_for PassesOwn.never rfl (pi_list (C8.pe_c c_law_named hr (by decide) (by rfl) (pa_cons (pv 0) (pa_cons (C8.pe_c c_law_take hr (by decide) (by rfl) (pa_cons (pv 0) (pa_cons pe_int pa_nil))) pa_nil)))) (pg_name (i := 12) sc__law_rules_for.nd rfl (Or.inl rfl))
          (pss_one (ps_if (pt_cmpR op_notIn_seq (pv 12) (pe_dget (hu_of hr) (pv 3) (pe_ix ix_tup (pv 2) pe_int (fun _ _ => rfl)) (fun _ _ => rfl)) (by with_unfolding_all rfl))
          (pss_one (ps_expr (pe_bm PySem.F.plainAttrs_list PySem.F.slot_list_insert PySem.F.type_list_insert mt_insert (pv 6) (pa_cons (C8.pe_c c_law_take hr (by decide) (by rfl) (pa_cons (pv 0) (pa_cons (pe_op op_add (pe_callB call_len_seq (by rfl) T.len PySem.boot_len (pa_cons (pv 6) pa_nil)) pe_int) pa_nil))) (pa_cons (pe_tup (pa_cons pe_str (pa_cons (pv 12) pa_nil))) pa_nil)))))
          pss_nil)))
        (C8.pss_cut (ps_set (i := 13) sc__law_rules_for.nd rfl (Or.inr rfl) (pe_lc (own := [("_law_end", 14)]) (by exact rfl) sc__law_rules_for.nd (pi_list (pv 6)) (blkOk_by (own := [("_law_end", 14)]) (N := N__law_rules_for) (sc := defScope s__law_rules_for) (by decide +kernel)) (fun _ _ _ _ _ => (pg_name (i := 14) sc__law_rules_for.nd rfl (Or.inl rfl))) (fun _ _ _ _ _ => (pts_one (PW.pt (pw_or (pt_cmpR op_eq (pe_ix (r := rIxT K) ix_tup (pv 14) pe_int (fun _ _ => rfl)) pe_str (nomark _)) (pw_or1 (pt_cmpR (r := rIn K true) op_notIn_seq (pe_ix (r := rIxT K) ix_tup (pv 14) pe_int (fun _ _ => rfl)) (pe_ix (r := rIxT K) ix_tup (pe_dget (hu_of hr) (pe_dget (hu_of hr) (pv 1) pe_str (fun _ _ => rfl)) (pe_ix (r := rIxT K) ix_tup (pv 5) (pe_ix (r := rIxT K) ix_tup (pv 14) pe_int (fun _ _ => rfl)) (fun _ _ => rfl)) (fun _ _ => rfl)) (pe_callTy call_int1 (by rfl) T.int (by decide +kernel) (pa_cons (pe_cmpR op_eq (pe_ix (r := rIxT K) ix_tup (pv 14) pe_int (fun _ _ => rfl)) pe_int (nomark _)) pa_nil)) (fun _ _ => rfl)) (by with_unfolding_all rfl))))))) (fun _ _ _ _ _ => (pv 14))))
        (pss_cons (ps_for PassesOwn.never rfl (pi_list (pv 6)) (pg_name (i := 14) sc__law_rules_for.nd rfl (Or.inl rfl))
          (C8.pss_cut (ps_if (PW.pt (pw_and (PW.pt (pw_or (pt_cmpR op_eq (pe_ix (r := rIxT K) ix_tup (pv 14) pe_int (fun _ _ => rfl)) pe_str (nomark _)) (pw_or1 (pt_cmpR (op_notInD (hu65 hr)) (pv 14) (pv 13) (by with_unfolding_all rfl))))) (pw_and1 (pt_cmpR op_gt (C8.pe_c c_law_take hr (by decide) (by rfl) (pa_cons (pv 0) (pa_cons (pe_ix ix_tup (pv 4) pe_int (fun _ _ => rfl)) pa_nil))) pe_int (nomark _)))))
          (pss_cons (ps_par3 rfl sc__law_rules_for.nd (i := 15) (j := 16) (l := 17) rfl rfl rfl (by decide) (by decide) (by decide) rfl rfl rfl (pa_cons (C8.pe_c c_law_one_of hr (by decide) (by rfl) (pa_cons (pv 0) (pa_cons (pv 9) pa_nil))) (pa_cons (pe_ifExp (pt_val (pe_ix ix_tup (pv 4) pe_int (fun _ _ => rfl))) (pv 13) (pv 8)) (pa_cons (pe_lst pa_nil) pa_nil))) (by rfl))
        (C8.pss_cut (ps_for PassesOwn.never rfl (pi_range1 rfl T.range (pa_cons (pe_dget2 (hu_of hr) (pe_disp (pps_cons pe_str pe_int (pps_cons pe_str pe_int pps_nil)) (by rfl) (by rfl) (fun z => by cases z) (by decide)) (pv 15) pe_int (by exact ⟨rfl, rfl, rfl, rfl⟩)) pa_nil)) (pg_name (i := 18) sc__law_rules_for.nd rfl (Or.inl rfl))
          (pss_cons (ps_set (i := 19) sc__law_rules_for.nd rfl (Or.inl rfl) (C8.pe_c c_law_take hr (by decide) (by rfl) (pa_cons (pv 0) (pa_cons pe_int pa_nil))))
        (pss_cons (ps_set (i := 20) sc__law_rules_for.nd rfl (Or.inl rfl) (pe_ix ix_list (pe_lst (pa_cons (pe_tup (pa_cons pe_str pa_nil)) (pa_cons (pe_tup (pa_cons pe_str (pa_cons (C8.pe_c c_law_number hr (by decide) (by rfl) (pa_cons (pv 0) pa_nil)) pa_nil))) pa_nil))) (pe_op op_mod (pv 19) pe_int) (fun _ _ => rfl)))
        (pss_one (ps_expr (pe_bm PySem.F.plainAttrs_list PySem.F.slot_list_append PySem.F.type_list_append mt_append (pv 17) (pa_cons (pe_ifExp (PW.pt (pw_and (pt_cmpR op_lt (pv 19) pe_int (nomark _)) (pw_and1 (pt_cmpR (op_neD hr.units) (pv 16) (pe_lst pa_nil) (nomark _))))) (C8.pe_c c_law_one_of hr (by decide) (by rfl) (pa_cons (pv 0) (pa_cons (pe_slice sl_list (pv 16) (po_some (pe_op op_sub (pe_un un_neg pe_int) (pv 19))) po_none) pa_nil))) (pv 20)) pa_nil)))))))
        (pss_one (ps_expr (pe_bm PySem.F.plainAttrs_list PySem.F.slot_list_append PySem.F.type_list_append mt_append (pv 7) (pa_cons (pe_tup (pa_cons (pe_ix ix_tup (pv 2) pe_int (fun _ _ => rfl)) (pa_cons (pv 14) (pa_cons (pv 15) (pa_cons (pe_callTy call_tuple_of (by rfl) T.tuple (by decide +kernel) (pa_cons (pv 17) pa_nil)) pa_nil))))) pa_nil))))))
          pss_nil)
        (pss_one (ps_set (i := 8) sc__law_rules_for.nd rfl (Or.inl rfl) (pe_op op_cat (pv 8) (pe_lc (own := [("_law_one", 20)]) (by exact rfl) sc__law_rules_for.nd (pi_list (pe_lst (pa_cons (pv 14) pa_nil))) (blkOk_by (own := [("_law_one", 20)]) (N := N__law_rules_for) (sc := defScope s__law_rules_for) (by decide +kernel)) (fun _ _ _ _ _ => (pg_name (i := 20) sc__law_rules_for.nd rfl (Or.inl rfl))) (fun _ _ _ _ _ => (pts_one (pt_cmpR (r := rInD K) (op_inD (hu65 hr)) (pv 20) (pv 13) (by with_unfolding_all rfl)))) (fun _ _ _ _ _ => (pv 20))))))))
        (pss_one (ps_ret (pv 7))))))))), ?_⟩
    -- places, ends, rules, known, ops
    refine ⟨fun σ X => ∃ pt le lr lk lo, σ = [some (.ref a), some (.ref gd), some rowv, some (.ref ph), some wv, some (.ref pt), some (.ref le), some (.ref lr), some (.ref lk), some (.ref lo), none, none, none, none, none, none, none, none, none, none, none, none] ∧ Lc K H X a pt lr lk lo mr OPS4 ∧ X le = some (.lst []) ∧ X a = some (.lst b) ∧ H le = none ∧ H lr = none ∧ H lk = none ∧ H lo = none ∧ le ≠ lr ∧ le ≠ lk ∧ le ≠ lo ∧ lr ≠ lk ∧ lr ≠ lo, ?_, ?_⟩
    · obtain ⟨rq, rt, rfl, hr1, hr2⟩ := row_at cx.row
      refine ⟨_, rfl, rq, _, 1, .str (SX.S mr.so), rfl, rfl, hr1, atI_nat (j := 1) rfl, by show 1 ≤ sizeLine; decide, fun t1 n1 => ?_⟩
      have g1 := same_upd (o := .tup [.str (SX.S mr.so)]) n1
      refine ⟨_, rfl, rq, _, 2, .ref rt, rfl, rfl, Same.seqT g1 hr1, atI_nat (j := 2) rfl, t1, rt, _, _, rfl, rfl, SqT.of upd_same, Same.seqT g1 hr2, ?_, fun H2 pt s2 hpt => ?_⟩
      · rw [nmV_len]
        have := cx.p2
        exact Nat.le_trans (show _ ≤ 3 from by show 1 + mr.pt.length ≤ 3; omega) (by decide)
      have s12 := g1.trans s2
      refine ⟨by show 0 ≤ sizeLine; decide, fun le nle => ⟨by show 0 ≤ sizeLine; decide, fun lr nlr => ⟨by show 0 ≤ sizeLine; decide, fun lk nlk => ⟨by show 4 ≤ sizeLine; decide, fun lo nlo => ⟨by show 5 ≤ sizeLine; decide, fun tp ntp => ?_⟩⟩⟩⟩⟩
      refine ⟨tp, _, rfl, SqT.of upd_same, rfl, _, _, rfl, _, _, rfl, _, _, rfl, _, _, rfl, _, _, rfl, rfl, ?_⟩
      have h1 := same_upd (o := .lst []) nle
      have h2 := same_upd (o := .lst []) nlr
      have h3 := same_upd (o := .lst []) nlk
      have h4 := same_upd (o := .lst (nmV OPS4)) nlo
      have h5 := same_upd (o := .tup [.ref pt, .ref le, .ref lr, .ref lk, .ref lo]) ntp
      have sA := (((h1.trans h2).trans h3).trans h4).trans h5
      refine ⟨pt, le, lr, lk, lo, rfl, ⟨But.of (s12.trans sA), Same.seqT sA hpt, h5 _ _ (h4 _ _ (h3 _ _ upd_same)), h5 _ _ (h4 _ _ upd_same), h5 _ _ upd_same⟩, h5 _ _ (h4 _ _ (h3 _ _ (h2 _ _ upd_same))), (s12.trans sA) _ _ ha, s12.free nle, (s12.trans h1).free nlr, (s12.trans (h1.trans h2)).free nlk, (s12.trans ((h1.trans h2).trans h3)).free nlo, ne_of_none upd_same nlr, ne_of_none (h2 _ _ upd_same) nlk, ne_of_none (h3 _ _ (h2 _ _ upd_same)) nlo, ne_of_none upd_same nlk, ne_of_none (h3 _ _ upd_same) nlo⟩
    rintro σ X0 ⟨pt, le0, lr, lk, lo0, rfl, lc0, hle0, hb0, nle0, nlr, nlk, nlo0, d1, d2, d3, d4, d5⟩
    have off : ∀ {x : Addr}, H x = none → x ≠ a := fun {x} h z => by
      rw [z, ha] at h
      cases h
    -- ops
    refine ⟨fun σ X => ∃ lo, σ = [some (.ref a), some (.ref gd), some rowv, some (.ref ph), some wv, some (.ref pt), some (.ref le0), some (.ref lr), some (.ref lk), some (.ref lo), none, none, none, none, none, none, none, none, none, none, none, none] ∧ Lc K H X a pt lr lk lo mr (opsOf roof) ∧ X le0 = some (.lst []) ∧ X a = some (.lst b) ∧ H lo = none ∧ le0 ≠ lo ∧ lr ≠ lo, ?_, ?_⟩
    · obtain ⟨kvs, of, ofk, q1, q2, q3, q4, q5⟩ := (cx.but ha lc0.bt).g
      refine ⟨_, rfl, gd, .int (roof : Nat), rfl, by have h := DGet.k (k := Sum.inr "cap") q1; rw [q2] at h; exact h, rfl, _, rfl, ?_⟩
      by_cases hz : roof = 0
      · refine ifT (decide_eq_true (congrArg V.int (by omega))) ?_
        refine ⟨_, rfl, by show 8 ≤ sizeLine; decide, fun l8 n8 => ?_⟩
        have g8 := same_upd (o := .lst (nmV OPS8)) n8
        refine ⟨lo0, l8, _, _, rfl, rfl, g8 _ _ lc0.lo, upd_same, by show 12 ≤ sizeLine; decide, fun lo nlo => ?_⟩
        have g9 := same_upd (o := .lst (nmV OPS4 ++ nmV OPS8)) nlo
        have sA := g8.trans g9
        refine ⟨lo, rfl, ⟨lc0.bt.trans (But.of sA), Same.seqT sA lc0.pt, sA _ _ lc0.lr, sA _ _ lc0.lk, ?_⟩, sA _ _ hle0, sA _ _ hb0, ?_, ne_of_none (g8 _ _ hle0) nlo, ne_of_none (g8 _ _ lc0.lr) nlo⟩
        · have e : nmV (opsOf roof) = nmV OPS4 ++ nmV OPS8 := by
            unfold opsOf
            rw [if_pos hz]
            exact List.map_append
          rw [e]
          exact upd_same
        · exact But.free (lc0.bt.trans (But.of g8)) (g8 _ _ hb0) nlo
      · refine ifF (decide_eq_false (fun y => hz (by have := V.int.inj y; omega))) ?_
        have e : opsOf roof = OPS4 := if_neg hz
        exact ⟨lo0, rfl, by rw [e]; exact lc0, hle0, hb0, nlo0, d3, d5⟩
    rintro σ X1 ⟨lo, rfl, lc1, hle1, hb1, nlo, d6, d7⟩
    have nra := off nlr
    have nka := off nlk
    have noa := off nlo
    have pl3 : mr.places.length ≤ 3 := by
      have := cx.p2
      unfold MRow.places
      rw [List.length_cons]
      omega
    -- the ends of all places
    refine ⟨fun σ X => ∃ (y10 y11 : Option V) (le : Addr) (vs : List V) (es : List En) (b' : List V), σ = [some (.ref a), some (.ref gd), some rowv, some (.ref ph), some wv, some (.ref pt), some (.ref le), some (.ref lr), some (.ref lk), some (.ref lo), y10, y11, none, none, none, none, none, none, none, none, none, none] ∧ Lc K H X a pt lr lk lo mr (opsOf roof) ∧ X le = some (.lst vs) ∧ DpAll K X vs (es.map En.d) ∧ es.Nodup ∧ (∀ e ∈ es, Drawn mr phs 3 [] e) ∧ es.length ≤ 9 ∧ X a = some (.lst b') ∧ BoxL (m + 9) b' ∧ H le = none ∧ le ≠ lr ∧ le ≠ lk ∧ le ≠ lo, ?_, ?_⟩
    · refine ⟨3, rfl, by decide, by decide, for_range (lo := 0) (n := Int.toNat 3) (fun i σ X => ∃ (y10 y11 : Option V) (le : Addr) (vs : List V) (es : List En) (b' : List V), σ = [some (.ref a), some (.ref gd), some rowv, some (.ref ph), some wv, some (.ref pt), some (.ref le), some (.ref lr), some (.ref lk), some (.ref lo), y10, y11, none, none, none, none, none, none, none, none, none, none] ∧ Lc K H X a pt lr lk lo mr (opsOf roof) ∧ X le = some (.lst vs) ∧ DpAll K X vs (es.map En.d) ∧ es.Nodup ∧ (∀ e ∈ es, Drawn mr phs i [] e) ∧ es.length ≤ 3 * i ∧ X a = some (.lst b') ∧ BoxL (m + 3 * i) b' ∧ H le = none ∧ le ≠ lr ∧ le ≠ lk ∧ le ≠ lo)
        ⟨none, none, le0, [], [], b, rfl, lc1, hle1, .nil, List.nodup_nil, (fun e h => nomatch h), Nat.le_refl _, hb1, hB, nle0, d1, d2, d6⟩ ?_ ?_⟩
      · rintro i σ X hi ⟨y10, y11, le, vs, es, b2, rfl, lc, hle, hds, hnd, hdr, hel, hb, hBx, nle, e1, e2, e3⟩
        have hi : i < 3 := hi
        refine ⟨_, rfl, _, rfl, pt, _, rfl, .inr lc.pt, _, rfl, ⟨by decide, by decide, by omega, by rw [nmV_len]; omega, by rw [nmV_len]; omega⟩, fun q1 nq1 => ?_⟩
        have g1 := same_upd (o := .lst (rgV 0 ((nmV mr.places).length : Int))) nq1
        have nq1a : q1 ≠ a := fun z => by
          rw [z, hb] at nq1
          cases nq1
        have lrg : (rgV 0 ((nmV mr.places).length : Int)).length = mr.places.length := by
          rw [rgV_length, nmV_len]
          omega
        refine ⟨a, q1, _, b2, _, rfl, g1 _ _ hb, hBx, by omega, SqL.of upd_same, nq1a, by omega, fun X2 ls ys b3 bt2 nls hls hperm hb3 hB3 => ?_⟩
        have erg : rgV 0 ((nmV mr.places).length : Int) = (List.range mr.places.length).map fun i : Nat => V.int ((i : Nat) : Int) := by
          unfold rgV
          rw [nmV_len, Int.sub_zero, Int.toNat_natCast]
          congr 1
          funext x
          rw [Int.zero_add]
        obtain ⟨ps, eps, hps⟩ := perm_map hperm (List.range mr.places.length) erg
        subst eps
        have psn : ps.Nodup := hps.nodup_iff.mpr List.nodup_range
        have psl : ps.length = mr.places.length := by rw [hps.length_eq, List.length_range]
        have bXX2 : But a X X2 := (But.of g1).trans bt2
        have lc2 := lc.go hb nra nka noa bXX2
        have nle2 := off nle
        have hle2 := bXX2 _ _ nle2 hle
        have kT2 := KeepT.but hb bXX2
        have nlsX : X ls = none := g1.free nls
        have e4 : ls ≠ le := fun z => by
          rw [z, hle] at nlsX
          cases nlsX
        refine ⟨ls, rfl, ⟨_, SqL.of hls⟩, for_list (K := K) (a := ls) (xs := ps.map fun i : Nat => V.int ((i : Nat) : Int)) (fun j σ Y => ∃ (y11 : Option V) (le : Addr) (vs : List V) (es : List En), σ = [some (.ref a), some (.ref gd), some rowv, some (.ref ph), some wv, some (.ref pt), some (.ref le), some (.ref lr), some (.ref lk), some (.ref lo), some (.int (0 + (i : Nat))), y11, none, none, none, none, none, none, none, none, none, none] ∧ Lc K H Y a pt lr lk lo mr (opsOf roof) ∧ Y le = some (.lst vs) ∧ DpAll K Y vs (es.map En.d) ∧ es.Nodup ∧ (∀ e ∈ es, Drawn mr phs i (ps.take j) e) ∧ es.length ≤ 3 * i + j ∧ Y a = some (.lst b3) ∧ Y ls = some (.lst (ps.map fun i : Nat => V.int ((i : Nat) : Int))) ∧ H le = none ∧ le ≠ lr ∧ le ≠ lk ∧ le ≠ lo)
          ⟨y11, le, vs, es, rfl, lc2, hle2, dpAll_imm kT2 hds (immAll_map En.imm es), hnd, fun e he => ?_, by omega, hb3, hls, nle, e1, e2, e3⟩ (fun j σ Y _ ⟨_, _, _, _, _, _, _, _, _, _, _, _, h, _⟩ => SqL.of h) ?_ ?_⟩
        · have h := hdr e he
          cases e with
          | kept w => exact h.elim
          | sp p w =>
            obtain ⟨k, t, h1, h2, h3⟩ := h
            exact ⟨k, t, h1, h2, h3.elim .inl (fun z => nomatch z.2)⟩
        · rintro j x σ Y hx ⟨y11, le, vs, es, rfl, lcY, hleY, hdsY, hndY, hdrY, helY, hbY, hlsY, nleY, f1, f2, f3⟩
          obtain ⟨p, hp, rfl⟩ : ∃ p : Nat, ps[j]? = some p ∧ x = V.int ((p : Nat) : Int) := by
            rw [List.getElem?_map] at hx
            cases e : ps[j]? with
            | none => rw [e] at hx; cases hx
            | some p => rw [e] at hx; exact ⟨p, rfl, (Option.some.inj hx).symm⟩
          have hjl : j < ps.length := (List.getElem?_eq_some_iff.mp hp).1
          have hpl : p < mr.places.length := by
            have := hps.mem_iff.mp (List.mem_of_getElem? hp)
            exact List.mem_range.mp this
          obtain ⟨k, hk⟩ : ∃ k, mr.places[p]? = some k := ⟨mr.places[p], List.getElem?_eq_getElem hpl⟩
          obtain ⟨r, hr1, hr2⟩ := cx.so k (List.mem_of_getElem? hk)
          have cY := cx.but ha lcY.bt
          obtain ⟨phk, p1, p2⟩ := cY.p
          obtain ⟨pl, h1, h2, h3, h4⟩ := p2 r hr1
          rw [hr2] at h1 h3 h4
          refine ⟨_, rfl, _, rfl, _, rfl, _, rfl, pt, _, _, _, rfl, rfl, lcY.pt, atI_nat (nmV_at hk), ph, .ref pl, rfl, by have h := DGet.k (k := Sum.inr (SX.S k)) p1; rw [h1] at h; exact h, ?_⟩
          refine ⟨_, rfl, _, rfl, _, rfl, _, _, rfl, rfl, _, rfl, pl, _, rfl, SqL.of h3, fun c nc => ?_⟩
          have ec : cutV (nmV (phs k)) (some (0 + (i : Nat) : Int)) (some (0 + (i : Nat) + 1 : Int)) = nmV (((phs k).drop i).take 1) := by
            rw [Int.zero_add, show ((i : Nat) : Int) + 1 = ((i + 1 : Nat) : Int) by omega, cutV_nat, show i + 1 - i = 1 by omega, nmV_drop, nmV_take]
          have k1 := same_upd (o := .lst (cutV (nmV (phs k)) (some (0 + (i : Nat) : Int)) (some (0 + (i : Nat) + 1 : Int)))) nc
          have hc := upd_same (H := Y) (a := c) (o := .lst (cutV (nmV (phs k)) (some (0 + (i : Nat) : Int)) (some (0 + (i : Nat) + 1 : Int))))
          obtain ⟨Y1, eY1⟩ : ∃ Y1, Y1 = upd Y c (.lst (cutV (nmV (phs k)) (some (0 + (i : Nat) : Int)) (some (0 + (i : Nat) + 1 : Int)))) := ⟨_, rfl⟩
          rw [← eY1] at k1 hc ⊢
          rw [ec] at hc
          obtain ⟨wl, ewl⟩ : ∃ wl, wl = ((phs k).drop i).take 1 := ⟨_, rfl⟩
          rw [← ewl] at hc
          refine ⟨c, rfl, ⟨_, SqL.of hc⟩, fun D nD => ?_⟩
          refine lc_list (K := K) (a := c) (xs := nmV wl) (fun j H' => Same Y1 H' ∧ ∃ us, H' D = some (.lst us) ∧ DpAll K H' us (((wl.take j).map (En.sp p)).map En.d)) ⟨same_upd nD, [], upd_same, .nil⟩ (fun j H' _ h => SqL.of (h.1 _ _ hc)) ?_ ?_
          · rintro t v Z hv ⟨sZ, us, hD, hus⟩
            obtain ⟨wd, hwd, rfl⟩ : ∃ wd, wl[t]? = some wd ∧ v = V.str (SX.S wd) := by
              unfold nmV at hv
              rw [List.getElem?_map] at hv
              cases e : wl[t]? with
              | none => rw [e] at hv; cases hv
              | some u => rw [e] at hv; exact ⟨u, rfl, (Option.some.inj hv).symm⟩
            have hlen := dpAll_len hus
            rw [List.length_map, List.length_map, List.length_take] at hlen
            have wl1 : wl.length ≤ 1 := by
              rw [ewl, List.length_take]
              omega
            refine ⟨rfl, yesT ?_⟩
            refine ⟨_, rfl, _, rfl, by show 3 ≤ sizeLine; decide, fun tq ntq => ?_⟩
            have k2 := same_upd (o := .tup [.str "at", .int (p : Nat), .str (SX.S wd)]) ntq
            refine ⟨us, k2 _ _ hD, small1000 (by omega), Same.at_ (sZ.trans k2) nD, us ++ [.ref tq], upd_same, ?_⟩
            rw [List.take_add_one, hwd, List.map_append, List.map_append]
            have kl : KeepT (upd Z tq (.tup [.str "at", .int (p : Nat), .str (SX.S wd)])) (upd (upd Z tq (.tup [.str "at", .int (p : Nat), .str (SX.S wd)])) D (.lst (us ++ [.ref tq]))) := KeepT.at_ (k2 _ _ hD) lst_no
            exact dpAll_appI (dpAll_imm ((KeepT.of k2).trans kl) hus (immAll_map En.imm _)) (.cons (dp_imm kl (.tup (SqT.of upd_same) (.cons (.str _) (.cons (.int _) (.cons (.str _) .nil)))) rfl) .nil)
          rintro Z ⟨sZ, us, hD, hus⟩
          rw [nmV_len, List.take_length] at hus
          have sYZ := k1.trans sZ
          have lv := dpAll_len hdsY
          rw [List.length_map] at lv
          have lu := dpAll_len hus
          rw [List.length_map, List.length_map] at lu
          have wl1 : wl.length ≤ 1 := by
            rw [ewl, List.length_take]
            omega
          refine ⟨le, D, _, _, rfl, rfl, sYZ _ _ hleY, hD, Nat.le_trans (show _ ≤ 100 from by omega) (by decide), fun le' nle' => ?_⟩
          have k3 := same_upd (o := .lst (vs ++ us)) nle'
          have sA := sYZ.trans k3
          have nleH' : H le' = none := But.free (lcY.bt.trans (But.of sYZ)) (sYZ _ _ hbY) nle'
          refine ⟨_, le', vs ++ us, es ++ wl.map (En.sp p), rfl, lcY.go hbY nra nka noa (But.of sA), upd_same, ?_, ?_, fun e he => ?_, ?_, sA _ _ hbY, sA _ _ hlsY, nleH', ?_, ?_, ?_⟩
          · rw [List.map_append]
            exact dpAll_appI (dpAll_same sA hdsY) (dpAll_same k3 hus)
          · rw [List.nodup_append]
            refine ⟨hndY, ?_, fun x hx y hy e => ?_⟩
            · cases wl with
              | nil => exact List.nodup_nil
              | cons u r =>
                cases r with
                | nil => simp
                | cons _ _ => simp at wl1
            · subst e
              obtain ⟨u, hu, rfl⟩ := List.mem_map.mp hy
              obtain ⟨k', t, g1, g2, g3⟩ := hdrY _ hx
              rw [hk] at g1
              cases g1
              have hui : (phs k)[i]? = some u := by
                rw [ewl] at hu
                cases ed : (phs k).drop i with
                | nil =>
                  rw [ed] at hu
                  cases hu
                | cons v r =>
                  rw [ed] at hu
                  have : u = v := by simpa using hu
                  subst this
                  have := List.getElem?_drop (xs := phs k) (i := i) (j := 0)
                  rw [ed] at this
                  exact this.symm
              have nd : (phs k).Nodup := h4.nodup_iff.mpr ((cx.sok.ok r hr1).nd)
              rcases g3 with g3 | ⟨rfl, g3⟩
              · have := (List.getElem?_inj (by
                  rcases List.getElem?_eq_some_iff.mp hui with ⟨hh, _⟩
                  omega) nd).mp (g2.trans hui.symm)
                omega
              · obtain ⟨s1, hs1, hs2⟩ := List.getElem_of_mem g3
                rw [List.length_take] at hs1
                rw [List.getElem_take] at hs2
                have hs3 : ps[s1]? = some p := by
                  rw [List.getElem?_eq_getElem (by omega), hs2]
                have := (List.getElem?_inj (by omega) psn).mp (hs3.trans hp.symm)
                omega
          · rcases List.mem_append.mp he with he | he
            · have h := hdrY e he
              cases e with
              | kept w => exact h.elim
              | sp p' w =>
                obtain ⟨k', t, g1, g2, g3⟩ := h
                refine ⟨k', t, g1, g2, g3.elim .inl fun z => .inr ⟨z.1, ?_⟩⟩
                rw [List.take_add_one]
                exact List.mem_append_left _ z.2
            · obtain ⟨u, hu, rfl⟩ := List.mem_map.mp he
              refine ⟨k, i, hk, ?_, .inr ⟨rfl, ?_⟩⟩
              · rw [ewl] at hu
                cases ed : (phs k).drop i with
                | nil =>
                  rw [ed] at hu
                  cases hu
                | cons v r =>
                  rw [ed] at hu
                  have : u = v := by simpa using hu
                  subst this
                  have := List.getElem?_drop (xs := phs k) (i := i) (j := 0)
                  rw [ed] at this
                  exact this.symm
              · rw [List.take_add_one, hp]
                exact List.mem_append_right _ (by simp)
          · rw [List.length_append, List.length_map]
            omega
          · exact fun z => by
              have := sYZ _ _ lcY.lr
              rw [← z, nle'] at this
              cases this
          · exact fun z => by
              have := sYZ _ _ lcY.lk
              rw [← z, nle'] at this
              cases this
          · exact fun z => by
              have := sYZ _ _ lcY.lo
              rw [← z, nle'] at this
              cases this
        · rintro σ Y ⟨y11, le, vs, es, rfl, lcY, hleY, hdsY, hndY, hdrY, helY, hbY, hlsY, nleY, f1, f2, f3⟩
          refine ⟨_, _, le, vs, es, b3, rfl, lcY, hleY, hdsY, hndY, fun e he => ?_, by rw [List.length_map] at helY; omega, hbY, hB3.mono (by rw [lrg]; omega), nleY, f1, f2, f3⟩
          have h := hdrY e he
          cases e with
          | kept w => exact h.elim
          | sp p w =>
            obtain ⟨k, t, h1, h2, h3⟩ := h
            exact ⟨k, t, h1, h2, .inl (by rcases h3 with h3 | h3 <;> omega)⟩
      · rintro σ X ⟨y10, y11, le, vs, es, b2, rfl, lc, hle, hds, hnd, hdr, hel, hb, hBx, nle, e1, e2, e3⟩
        exact ⟨_, _, le, vs, es, b2, rfl, lc, hle, hds, hnd, hdr, hel, hb, hBx, nle, e1, e2, e3⟩
    rintro σ X2 ⟨y10, y11, le, vs2, es2, b2, rfl, lc2, hle2, hds2, hnd2, hdr2, hel2, hb2, hB2, nle, e1, e2, e3⟩
    have nea := off nle
    have eok2 : ∀ e ∈ es2, EnOk rs mr [] e := fun e he => by
      have h := hdr2 e he
      cases e with
      | kept w => exact h.elim
      | sp p w =>
        obtain ⟨k, t, h1, h2, _⟩ := h
        obtain ⟨r, hr1, hr2⟩ := cx.so k (List.mem_of_getElem? h1)
        obtain ⟨phk, _, p2⟩ := cx.p
        obtain ⟨pl, _, _, _, hp⟩ := p2 r hr1
        rw [hr2] at hp
        exact ⟨k, r, h1, hr1, hr2, hp.mem_iff.mp (List.mem_of_getElem? h2)⟩
    -- the kept ones
    refine ⟨fun σ X => ∃ (y12 : Option V) (vs : List V) (es : List En) (ks : List (List Nat)) (b' : List V), σ = [some (.ref a), some (.ref gd), some rowv, some (.ref ph), some wv, some (.ref pt), some (.ref le), some (.ref lr), some (.ref lk), some (.ref lo), y10, y11, y12, none, none, none, none, none, none, none, none, none] ∧ Lc K H X a pt lr lk lo mr (opsOf roof) ∧ X le = some (.lst vs) ∧ DpAll K X vs (es.map En.d) ∧ es.Nodup ∧ ks.length ≤ 2 ∧ (∀ e ∈ es, EnOk rs mr ks e) ∧ es.length ≤ 11 ∧ X a = some (.lst b') ∧ BoxL (m + 40) b', ?_, ?_⟩
    · refine ⟨_, rfl, _, rfl, a, 3, _, b2, rfl, hb2, hB2, by omega, by decide, by decide, fun r0 b3 h0 h0' hB3 => ?_⟩
      obtain ⟨n0, rfl⟩ := Int.eq_ofNat_of_zero_le h0
      have bX3 : But a X2 (upd X2 a (.lst b3)) := But.upd (But.refl a X2)
      have ha3 : (upd X2 a (.lst b3)) a = some (.lst b3) := upd_same
      obtain ⟨X3, e3'⟩ : ∃ X3, X3 = upd X2 a (.lst b3) := ⟨_, rfl⟩
      rw [← e3'] at bX3 ha3 ⊢
      refine ⟨a, n0, _, b3, rfl, by omega, ha3, hB3, by omega, fun X4 ln ws b4 bt4 nln hln hwl hwn hws hb4 hB4 => ?_⟩
      have bX4 := bX3.trans bt4
      have lc4 := lc2.go hb2 nra nka noa bX4
      have hle4 := bX4 _ _ nea hle2
      have kT4 := KeepT.but hb2 bX4
      have nlnX2 : X2 ln = none := But.free bX3 ha3 nln
      have nlne : ln ≠ le := fun z => by
        rw [z, hle2] at nlnX2
        cases nlnX2
      have nlna : ln ≠ a := fun z => by
        rw [z, hb2] at nlnX2
        cases nlnX2
      refine ⟨ln, rfl, ⟨_, SqL.of hln⟩, for_list (K := K) (a := ln) (xs := nmV ws) (fun j σ Y => ∃ (y12 : Option V) (vs : List V) (es : List En) (b' : List V), σ = [some (.ref a), some (.ref gd), some rowv, some (.ref ph), some wv, some (.ref pt), some (.ref le), some (.ref lr), some (.ref lk), some (.ref lo), y10, y11, y12, none, none, none, none, none, none, none, none, none] ∧ Lc K H Y a pt lr lk lo mr (opsOf roof) ∧ Y le = some (.lst vs) ∧ DpAll K Y vs (es.map En.d) ∧ es.Nodup ∧ (∀ e ∈ es, EnOk rs mr (ws.take j) e) ∧ es.length ≤ 9 + j ∧ Y a = some (.lst b') ∧ BoxL (m + 9 + 1 + 10 * n0 + j) b' ∧ Y ln = some (.lst (nmV ws)))
        ⟨none, vs2, es2, b4, rfl, lc4, hle4, dpAll_imm kT4 hds2 (immAll_map En.imm es2), hnd2, eok2, hel2, hb4, hB4, hln⟩ (fun j σ Y _ ⟨_, _, _, _, _, _, _, _, _, _, _, _, _, h⟩ => SqL.of h) ?_ ?_⟩
      · rintro j x σ Y hx ⟨y12, vs, es, b5, rfl, lcY, hleY, hdsY, hndY, hokY, helY, hbY, hBY, hlnY⟩
        obtain ⟨wd, hwd, rfl⟩ : ∃ wd, ws[j]? = some wd ∧ x = V.str (SX.S wd) := by
          unfold nmV at hx
          rw [List.getElem?_map] at hx
          cases e : ws[j]? with
          | none => rw [e] at hx; cases hx
          | some u => rw [e] at hx; exact ⟨u, rfl, (Option.some.inj hx).symm⟩
        have hjw : j < ws.length := (List.getElem?_eq_some_iff.mp hwd).1
        have cY := cx.but ha lcY.bt
        obtain ⟨rq, rt, erv, hr1, hr2⟩ := row_at cY.row
        obtain ⟨phk, p1, p2⟩ := cY.p
        obtain ⟨r, hrm, hrn⟩ := cx.so mr.so (List.mem_cons_self ..)
        obtain ⟨pl, h1, h2, h3, h4⟩ := p2 r hrm
        rw [hrn] at h1 h3 h4
        subst erv
        refine ⟨_, rfl, _, rfl, _, rfl, rq, _, 1, .str (SX.S mr.so), rfl, rfl, hr1, atI_nat (j := 1) rfl, ph, .ref pl, rfl, by have h := DGet.k (k := Sum.inr (SX.S mr.so)) p1; rw [h1] at h; exact h, pl, _, rfl, .inl (SqL.of h3), rfl, flat_names _, _, rfl, ?_⟩
        show if (!inV (.str (SX.S wd)) (nmV (phs mr.so))) = true then _ else _
        rw [in_names]
        have takeM : ∀ w ∈ ws.take j, w ∈ ws.take (j + 1) := fun w hw => by
          rw [List.take_add_one]
          exact List.mem_append_left _ hw
        by_cases hin : wd ∈ phs mr.so
        · refine ifF (by rw [decide_eq_true hin]; rfl) ?_
          exact ⟨_, vs, es, b5, rfl, lcY, hleY, hdsY, hndY, fun e he => (hokY e he).mono takeM, by omega, hbY, hBY.mono (by omega), hlnY⟩
        · refine ifT (by rw [decide_eq_false hin]; rfl) ?_
          have lv := dpAll_len hdsY
          rw [List.length_map] at lv
          refine ⟨_, rfl, .inl ⟨rfl, _, SqL.of hleY⟩, ?_⟩
          refine ⟨_, rfl, _, rfl, le, _, rfl, .inl (SqL.of hleY), _, _, rfl, rfl, a, _, _, b5, rfl, hbY, hBY, by omega, by omega, by omega, fun r5 b6 h5 h5' hB6 => ?_⟩
          obtain ⟨kk, rfl⟩ := Int.eq_ofNat_of_zero_le h5
          have bY1 : But a Y (upd Y a (.lst b6)) := But.upd (But.refl a Y)
          have haY1 : (upd Y a (.lst b6)) a = some (.lst b6) := upd_same
          obtain ⟨Y1, eY1⟩ : ∃ Y1, Y1 = upd Y a (.lst b6) := ⟨_, rfl⟩
          rw [← eY1] at bY1 haY1 ⊢
          refine ⟨_, rfl, by show 2 ≤ sizeLine; decide, fun tq ntq => ?_⟩
          have k1 := same_upd (o := .tup [.str "kept", .str (SX.S wd)]) ntq
          have bY2 := bY1.trans (But.of (a := a) k1)
          have hle6 := bY2 _ _ nea hleY
          refine ⟨le, vs, _, .ref tq, rfl, rfl, hle6, small1000 (by omega), by omega, by omega, ?_⟩
          rw [Int.toNat_natCast]
          have kt := KeepT.but hbY bY2
          have dN : Dp K (upd Y1 tq (.tup [.str "kept", .str (SX.S wd)])) (.ref tq) (En.d (.kept wd)) := .tup (SqT.of upd_same) (.cons (.str _) (.cons (.str _) .nil))
          obtain ⟨Y2, eY2⟩ : ∃ Y2, Y2 = upd Y1 tq (.tup [.str "kept", .str (SX.S wd)]) := ⟨_, rfl⟩
          rw [← eY2] at k1 bY2 hle6 kt dN ⊢
          have kl : KeepT Y2 (upd Y2 le (.lst (vs.take kk ++ [.ref tq] ++ vs.drop kk))) := KeepT.at_ hle6 lst_no
          have lcY2 := lcY.go hbY nra nka noa bY2
          have fresh : En.kept wd ∉ es := fun hm => by
            have := (hokY _ hm).2
            obtain ⟨s1, hs1, hs2⟩ := List.getElem_of_mem this
            rw [List.length_take] at hs1
            rw [List.getElem_take] at hs2
            have hs3 : ws[s1]? = some wd := by rw [List.getElem?_eq_getElem (by omega), hs2]
            have := (List.getElem?_inj (by omega) hwn).mp (hs3.trans hwd.symm)
            omega
          refine ⟨_, vs.take kk ++ [.ref tq] ++ vs.drop kk, es.take kk ++ [.kept wd] ++ es.drop kk, b6, rfl, ⟨fun c o nc hc => ?_, kl.seqT lcY2.pt, ?_, ?_, ?_⟩, upd_same, ?_, ?_, fun e he => ?_, ?_, ?_, hB6.mono (by omega), ?_⟩
          · rw [upd_ne (ne_of_none hc nle)]
            exact lcY2.bt c o nc hc
          · rw [upd_ne e1.symm]
            exact lcY2.lr
          · rw [upd_ne e2.symm]
            exact lcY2.lk
          · rw [upd_ne e3.symm]
            exact lcY2.lo
          · rw [List.map_append, List.map_append, List.map_take, List.map_drop]
            have dA := dpAll_imm (kt.trans kl) hdsY (immAll_map En.imm es)
            exact dpAll_appI (dpAll_appI (dpAll_take kk dA) (.cons (dp_imm kl dN rfl) .nil)) (dpAll_drop kk dA)
          · rw [(ins_perm es (.kept wd) kk).nodup_iff, List.nodup_cons]
            exact ⟨fresh, hndY⟩
          · rcases List.mem_cons.mp ((ins_perm es (.kept wd) kk).mem_iff.mp he) with rfl | he
            · refine ⟨⟨hws wd (List.mem_of_getElem? hwd), fun r' hr' hn' hm' => hin ?_⟩, ?_⟩
              · obtain ⟨pl', _, _, _, hp'⟩ := p2 r' hr'
                rw [hn'] at hp'
                exact hp'.mem_iff.mpr hm'
              · rw [List.take_add_one, hwd]
                exact List.mem_append_right _ (by simp)
            · exact (hokY e he).mono takeM
          · rw [(ins_perm es (.kept wd) kk).length_eq, List.length_cons]
            omega
          · rw [upd_ne nea.symm]
            exact k1 _ _ haY1
          · rw [upd_ne nlne]
            exact bY2 _ _ nlna hlnY
      · rintro σ Y ⟨y12, vs, es, b5, rfl, lcY, hleY, hdsY, hndY, hokY, helY, hbY, hBY, hlnY⟩
        rw [nmV_len] at hokY helY hBY
        rw [List.take_length] at hokY
        exact ⟨_, vs, es, ws, b5, rfl, lcY, hleY, hdsY, hndY, by omega, hokY, by omega, hbY, hBY.mono (by omega)⟩
    rintro σ X5 ⟨y12, vs, es, ks, b5, rfl, lc5, hle5, hds5, hnd5, hk2, hok5, hel5, hb5, hB5⟩
    have small5 : ∀ e ∈ es, NmSmall (enW e) := fun e he => by
      have h := hok5 e he
      cases e with
      | sp p w =>
        obtain ⟨k, r, _, hr, _, hw⟩ := h
        exact nm_small ((cx.sok.ok r hr).all w hw)
      | kept w => exact nm_small h.1.1
    have lv5 := dpAll_len hds5
    rw [List.length_map] at lv5
    -- those that may be needed
    refine ⟨fun σ X => ∃ (lf : Addr) (us : List V) (fs : List En), σ = [some (.ref a), some (.ref gd), some rowv, some (.ref ph), some wv, some (.ref pt), some (.ref le), some (.ref lr), some (.ref lk), some (.ref lo), y10, y11, y12, some (.ref lf), none, none, none, none, none, none, none, none] ∧ Same X5 X ∧ X5 lf = none ∧ X lf = some (.lst us) ∧ DpAll K X us (fs.map En.d) ∧ (∀ e ∈ fs, e ∈ es ∧ FrOk rs mr e) ∧ (∀ e ∈ es, e ∉ fs → TgOk rs mr e) ∧ fs.length ≤ 11, ?_, ?_⟩
    · refine ⟨_, rfl, le, rfl, ⟨_, SqL.of hle5⟩, fun D nD => ?_⟩
      refine lc_list (K := K) (a := le) (xs := vs) (fun j Y => Same X5 Y ∧ ∃ (us : List V) (fs : List En), Y D = some (.lst us) ∧ DpAll K Y us (fs.map En.d) ∧ (∀ e ∈ fs, e ∈ es.take j ∧ FrOk rs mr e) ∧ (∀ e ∈ es.take j, e ∉ fs → TgOk rs mr e) ∧ fs.length ≤ j)
        ⟨same_upd nD, [], [], upd_same, .nil, (fun e h => nomatch h), (fun e h => nomatch h), Nat.le_refl _⟩ (fun j Y _ h => SqL.of (h.1 _ _ hle5)) ?_ ?_
      · rintro j x Y hx ⟨sY, us, fs, hD, hus, hfs, hns, hfl⟩
        obtain ⟨dd, hdd, hxd⟩ := dpAll_at hds5 hx
        rw [List.getElem?_map] at hdd
        obtain ⟨e, he, rfl⟩ : ∃ e, es[j]? = some e ∧ dd = e.d := by
          cases h : es[j]? with
          | none => rw [h] at hdd; cases hdd
          | some e => rw [h] at hdd; exact ⟨e, rfl, (Option.some.inj hdd).symm⟩
        have hjl : j < es.length := (List.getElem?_eq_some_iff.mp he).1
        have ok := hok5 e (List.mem_of_getElem? he)
        have lu := dpAll_len hus
        rw [List.length_map] at lu
        have tk : es.take (j + 1) = es.take j ++ [e] := by rw [List.take_add_one, he]; rfl
        -- it is kept, or left out
        have yes : FrOk rs mr e → ∀ Z, Same Y Z → Same X5 (upd Z D (.lst (us ++ [x]))) ∧ ∃ (us' : List V) (fs' : List En), (upd Z D (.lst (us ++ [x]))) D = some (.lst us') ∧ DpAll K (upd Z D (.lst (us ++ [x]))) us' (fs'.map En.d) ∧ (∀ e ∈ fs', e ∈ es.take (j + 1) ∧ FrOk rs mr e) ∧ (∀ e ∈ es.take (j + 1), e ∉ fs' → TgOk rs mr e) ∧ fs'.length ≤ j + 1 := fun hfr Z sZ => by
          have hDZ := sZ _ _ hD
          have kl : KeepT Z (upd Z D (.lst (us ++ [x]))) := KeepT.at_ hDZ lst_no
          refine ⟨Same.at_ (sY.trans sZ) nD, us ++ [x], fs ++ [e], upd_same, ?_, fun e' he' => ?_, fun e' he' hn' => ?_, by rw [List.length_append]; show fs.length + 1 ≤ j + 1; omega⟩
          · rw [List.map_append]
            exact dpAll_appI (dpAll_imm ((KeepT.of sZ).trans kl) hus (immAll_map En.imm fs)) (.cons (dp_imm kl (dp_same (sY.trans sZ) hxd) e.imm) .nil)
          · rw [tk]
            rcases List.mem_append.mp he' with h | h
            · exact ⟨List.mem_append_left _ (hfs e' h).1, (hfs e' h).2⟩
            · rw [List.mem_singleton.mp h]
              exact ⟨List.mem_append_right _ (by simp), hfr⟩
          · rw [tk] at he'
            rcases List.mem_append.mp he' with h | h
            · exact hns e' h fun z => hn' (List.mem_append_left _ z)
            · exact absurd (List.mem_append_right fs h) hn'
        refine ⟨rfl, ?_⟩
        cases e with
        | kept w =>
          obtain ⟨q0, rfl, hq0⟩ := en_at (dp_same sY hxd)
          have hq0 : SqT K Y q0 [.str "kept", .str (SX.S w)] := hq0
          refine ⟨_, rfl, q0, _, 0, .str "kept", rfl, rfl, hq0, atI_nat (j := 0) rfl, rfl, _, rfl, ifT (by decide +kernel) (iteT ?_)⟩
          exact ⟨_, rfl, us, hD, small1000 (by omega), yes ok.1 Y (Same.refl Y)⟩
        | sp p w =>
          obtain ⟨q0, rfl, hq0⟩ := en_at (dp_same sY hxd)
          have hq0 : SqT K Y q0 [.str "at", .int (p : Nat), .str (SX.S w)] := hq0
          refine ⟨_, rfl, q0, _, 0, .str "at", rfl, rfl, hq0, atI_nat (j := 0) rfl, rfl, _, rfl, ifF (by decide +kernel) ?_⟩
          obtain ⟨k, r, hk, hr, hrn, hw⟩ := ok
          have cY := (cx.but ha lc5.bt).but hb5 (But.of (a := a) sY)
          obtain ⟨kvs, of, ofk, q1, q2, q3, q4, q5⟩ := cY.g
          obtain ⟨vo, ho1, ho2⟩ := q5 r hr
          rw [hrn] at ho1
          obtain ⟨oq, td, tu, rfl, hoS, htd, htu⟩ : ∃ oq td tu, vo = .ref oq ∧ SqT K Y oq [.ref td, .ref tu] ∧ SqT K Y td (nmV r.dn) ∧ SqT K Y tu (nmV r.up) := by
            cases ho2 with
            | tup hS hA =>
              cases hA with
              | cons a1 hA =>
                cases hA with
                | cons a2 hA =>
                  cases hA
                  cases a1 with
                  | tup h1 h2 =>
                    cases a2 with
                    | tup h3 h4 =>
                      rw [names_of h2] at h1
                      rw [names_of h4] at h3
                      exact ⟨_, _, _, rfl, hS, h1, h3⟩
          refine ⟨_, rfl, q0, _, 2, .str (SX.S w), rfl, rfl, hq0, atI_nat (j := 2) rfl, ?_⟩
          refine ⟨_, rfl, gd, .ref of, rfl, by have h := DGet.k (k := Sum.inr "of") q1; rw [q3] at h; exact h, ?_⟩
          refine ⟨_, rfl, _, rfl, q0, _, 1, .int (p : Nat), rfl, rfl, hq0, atI_nat (j := 1) rfl, pt, _, _, _, rfl, rfl, Same.seqT sY lc5.pt, atI_nat (nmV_at hk), ?_⟩
          refine ⟨of, .ref oq, rfl, by have h := DGet.k (k := Sum.inr (SX.S k)) q4; rw [ho1] at h; exact h, ?_⟩
          refine ⟨_, rfl, q0, _, 1, .int (p : Nat), rfl, rfl, hq0, atI_nat (j := 1) rfl, rfl, .inr ⟨_, rfl, ?_⟩⟩
          have no : FrOk rs mr (.sp p w) → False → False := fun _ h => h
          by_cases hp0 : p = 0
          · subst hp0
            refine ⟨oq, _, 1, .ref tu, rfl, congrArg V.int (if_pos (by decide +kernel)), hoS, atI_nat (j := 1) rfl, ?_⟩
            refine ⟨tu, _, rfl, .inr htu, rfl, flat_names _, _, rfl, ?_⟩
            show if (!inV (.str (SX.S w)) (nmV r.up)) = true then _ else _
            rw [in_names]
            by_cases hin : w ∈ r.up
            · refine ifF (by rw [decide_eq_true hin]; rfl) ⟨sY, us, fs, hD, hus, fun e' he' => ⟨by rw [tk]; exact List.mem_append_left _ (hfs e' he').1, (hfs e' he').2⟩, fun e' he' hn' => ?_, by omega⟩
              rw [tk] at he'
              rcases List.mem_append.mp he' with h | h
              · exact hns e' h hn'
              · rw [List.mem_singleton.mp h]
                exact ⟨k, r, hk, hr, hrn, hin⟩
            · refine ifT (by rw [decide_eq_false hin]; rfl) ?_
              exact ⟨_, rfl, us, hD, small1000 (by omega), yes ⟨k, r, hk, hr, hrn, (List.mem_append.mp hw).elim id (fun z => absurd z hin)⟩ Y (Same.refl Y)⟩
          · refine ⟨oq, _, 0, .ref td, rfl, congrArg V.int (if_neg (by rw [decide_eq_false (fun z => hp0 (by have := V.int.inj z; omega))]; decide)), hoS, atI_nat (j := 0) rfl, ?_⟩
            refine ⟨td, _, rfl, .inr htd, rfl, flat_names _, _, rfl, ?_⟩
            show if (!inV (.str (SX.S w)) (nmV r.dn)) = true then _ else _
            rw [in_names]
            by_cases hin : w ∈ r.dn
            · refine ifF (by rw [decide_eq_true hin]; rfl) ⟨sY, us, fs, hD, hus, fun e' he' => ⟨by rw [tk]; exact List.mem_append_left _ (hfs e' he').1, (hfs e' he').2⟩, fun e' he' hn' => ?_, by omega⟩
              rw [tk] at he'
              rcases List.mem_append.mp he' with h | h
              · exact hns e' h hn'
              · rw [List.mem_singleton.mp h]
                refine ⟨k, r, hk, hr, hrn, ?_⟩
                rw [decide_eq_false hp0]
                exact hin
            · refine ifT (by rw [decide_eq_false hin]; rfl) ?_
              refine ⟨_, rfl, us, hD, small1000 (by omega), yes ⟨k, r, hk, hr, hrn, ?_⟩ Y (Same.refl Y)⟩
              rw [decide_eq_false hp0]
              exact (List.mem_append.mp hw).elim (fun z => absurd z hin) id
      · rintro Y ⟨sY, us, fs, hD, hus, hfs, hns, hfl⟩
        rw [lv5, List.take_length] at hfs hns
        exact ⟨D, us, fs, rfl, sY, nD, hD, hus, hfs, hns, by omega⟩
    rintro σ X6 ⟨lf, us, fs, rfl, s56, nlf5, hlf6, hus6, hfs, hns, hfl⟩
    have lc6 := lc5.go hb5 nra nka noa (But.of (a := a) s56)
    have hle6 := s56 _ _ hle5
    have hds6 := dpAll_same s56 hds5
    have hb6 := s56 _ _ hb5
    have nfa : lf ≠ a := fun z => by
      rw [z, hb5] at nlf5
      cases nlf5
    have nfr : lf ≠ lr := fun z => by
      rw [z, lc5.lr] at nlf5
      cases nlf5
    have ls6 : Ls K H X6 a le lo lf vs us es fs (opsOf roof) := ⟨lc6.bt, hle6, hds6, hlf6, hus6, lc6.lo⟩
    have luf := dpAll_len hus6
    rw [List.length_map] at luf
    refine ⟨_, rfl, le, rfl, ⟨_, SqL.of hle6⟩, for_list (K := K) (a := le) (xs := vs) (fun i σ Y => ∃ (y14 y15 y16 y17 y18 y19 y20 y21 : Option V) (lk : Addr) (kv rv b' : List V) (kn : List En) (ru : List RRow), σ = [some (.ref a), some (.ref gd), some rowv, some (.ref ph), some wv, some (.ref pt), some (.ref le), some (.ref lr), some (.ref lk), some (.ref lo), y10, y11, y12, some (.ref lf), y14, y15, y16, y17, y18, y19, y20, y21] ∧ Ls K H Y a le lo lf vs us es fs (opsOf roof) ∧ Y lr = some (.lst rv) ∧ DpAll K Y rv (ru.map RRow.d) ∧ Y lk = some (.lst kv) ∧ DpAll K Y kv (kn.map En.d) ∧ lk ≠ a ∧ lk ≠ lr ∧ Rst rs mr roof ks es fs i i ru kn ∧ Y a = some (.lst b') ∧ BoxL (m + 40 + 20 * i) b')
      ⟨none, none, none, none, none, none, none, none, lk, [], [], b5, [], [], rfl, ls6, lc6.lr, .nil, lc6.lk, .nil, nka, d4.symm, ⟨List.Sublist.slnil, (fun r h => nomatch h), (fun r h => nomatch h), Nat.le_refl _⟩, hb6, hB5⟩ (fun j σ Y _ ⟨_, _, _, _, _, _, _, _, _, _, _, _, _, _, _, h, _⟩ => SqL.of h.le) ?_ ?_⟩
    · rintro i x σ Y hx ⟨y14, y15, y16, y17, y18, y19, y20, y21, lk', kv, rv, b', kn, ru, rfl, ls, hlr, hru, hlk, hkn, nka', nkr', rst, hb, hB⟩
      obtain ⟨dd, hdd, hxd⟩ := dpAll_at ls.de hx
      rw [List.getElem?_map] at hdd
      obtain ⟨e, he, rfl⟩ : ∃ e, es[i]? = some e ∧ dd = e.d := by
        cases h : es[i]? with
        | none => rw [h] at hdd; cases hdd
        | some e => rw [h] at hdd; exact ⟨e, rfl, (Option.some.inj hdd).symm⟩
      have hil : i < es.length := (List.getElem?_eq_some_iff.mp he).1
      have hem := List.mem_of_getElem? he
      have ok := hok5 e hem
      have tk : es.take (i + 1) = es.take i ++ [e] := by rw [List.take_add_one, he]; rfl
      have lrv := dpAll_len hru
      rw [List.length_map] at lrv
      have lkv := dpAll_len hkn
      rw [List.length_map] at lkv
      have fss : ∀ e ∈ fs, NmSmall (enW e) := fun e h => small5 e (hfs e h).1
      -- a rule, or none
      refine ⟨fun σ Y => ∃ (y15 y16 y17 y18 y19 y20 y21 : Option V) (rv b' : List V) (ru : List RRow), σ = [some (.ref a), some (.ref gd), some rowv, some (.ref ph), some wv, some (.ref pt), some (.ref le), some (.ref lr), some (.ref lk'), some (.ref lo), y10, y11, y12, some (.ref lf), some x, y15, y16, y17, y18, y19, y20, y21] ∧ Ls K H Y a le lo lf vs us es fs (opsOf roof) ∧ Y lr = some (.lst rv) ∧ DpAll K Y rv (ru.map RRow.d) ∧ Y lk' = some (.lst kv) ∧ DpAll K Y kv (kn.map En.d) ∧ Rst rs mr roof ks es fs i (i + 1) ru kn ∧ Y a = some (.lst b') ∧ BoxL (m + 40 + 20 * (i + 1)) b', ?_, ?_⟩
      · have cY := cx.but ha ls.bt
        obtain ⟨wq, rfl, hwq⟩ := wild_at cY.wl
        -- what may be needed
        obtain ⟨sl, xs, cs, esl, hsl, dsl, hcs, hcl, nsa⟩ : ∃ (sl : Addr) (xs : List V) (cs : List En), (if wb = true then V.ref lf else V.ref lk') = .ref sl ∧ Y sl = some (.lst xs) ∧ DpAll K Y xs (cs.map En.d) ∧ (∀ e ∈ cs, e ∈ fs) ∧ cs.length ≤ 11 ∧ sl ≠ a := by
          have := rst.kl
          cases wb with
          | true => exact ⟨lf, us, fs, rfl, ls.lf, ls.df, fun e h => h, hfl, nfa⟩
          | false => exact ⟨lk', kv, kn, rfl, hlk, hkn, rst.kf, by omega, nka'⟩
        have lxs := dpAll_len dsl
        rw [List.length_map] at lxs
        have noRule : ∀ {Z : Hp} {b2 : List V}, But a Y Z → Z a = some (.lst b2) → BoxL (m + 40 + 20 * i + 1) b2 → ∃ (z15 z16 z17 z18 z19 z20 z21 : Option V) (rv b' : List V) (ru : List RRow), [some (.ref a), some (.ref gd), some rowv, some (.ref ph), some (.ref wq), some (.ref pt), some (.ref le), some (.ref lr), some (.ref lk'), some (.ref lo), y10, y11, y12, some (.ref lf), some x, y15, y16, y17, y18, y19, y20, y21] = [some (.ref a), some (.ref gd), some rowv, some (.ref ph), some (.ref wq), some (.ref pt), some (.ref le), some (.ref lr), some (.ref lk'), some (.ref lo), y10, y11, y12, some (.ref lf), some x, z15, z16, z17, z18, z19, z20, z21] ∧ Ls K H Z a le lo lf vs us es fs (opsOf roof) ∧ Z lr = some (.lst rv) ∧ DpAll K Z rv (ru.map RRow.d) ∧ Z lk' = some (.lst kv) ∧ DpAll K Z kv (kn.map En.d) ∧ Rst rs mr roof ks es fs i (i + 1) ru kn ∧ Z a = some (.lst b') ∧ BoxL (m + 40 + 20 * (i + 1)) b' := fun {Z b2} t h1 h2 =>
          have k := KeepT.but hb t
          ⟨y15, y16, y17, y18, y19, y20, y21, rv, b2, ru, rfl, ls.go hb nea nfa noa t, t _ _ nra hlr, dpAll_imm k hru (immAll_map RRow.imm ru), t _ _ nka' hlk, dpAll_imm k hkn (immAll_map En.imm kn), ⟨by rw [tk]; exact rst.sub.trans (List.sublist_append_left _ _), rst.ok, rst.kf, rst.kl⟩, h1, h2.mono (by omega)⟩
        refine ifs_or (c1 := isK e) (c2 := !decide (e ∈ fs)) (fun Q hQ => ?_) (fun Q hQ => ?_) (fun hc => ?_) (fun hc => ?_)
        · cases e with
          | kept w =>
            obtain ⟨q0, rfl, hq0⟩ := en_at hxd
            have hq0 : SqT K Y q0 [.str "kept", .str (SX.S w)] := hq0
            exact ⟨_, rfl, q0, _, 0, .str "kept", rfl, rfl, hq0, atI_nat (j := 0) rfl, rfl, _, rfl, hQ _ (by show decide (V.str (Str.ofString "kept") = V.str (Str.ofString "kept")) = true; decide +kernel)⟩
          | sp p w =>
            obtain ⟨q0, rfl, hq0⟩ := en_at hxd
            have hq0 : SqT K Y q0 [.str "at", .int (p : Nat), .str (SX.S w)] := hq0
            exact ⟨_, rfl, q0, _, 0, .str "at", rfl, rfl, hq0, atI_nat (j := 0) rfl, rfl, _, rfl, hQ _ (by show decide (V.str (Str.ofString "at") = V.str (Str.ofString "kept")) = false; decide +kernel)⟩
        · exact ⟨_, rfl, _, rfl, e.d, fs.map En.d, hxd, .lst (SqL.of ls.lf) ls.df, en_shape (small5 e hem), ens_shape fss, _, rfl, hQ _ (by rw [ens_any])⟩
        · have tg : TgOk rs mr e := by
            cases e with
            | kept w => exact ok.1
            | sp p w =>
              refine hns _ hem fun z => ?_
              rw [decide_eq_true z] at hc
              cases hc
          have wn0 := cx.w0
          have wn1 := cx.w1
          refine ⟨_, rfl, _, rfl, wq, _, 1, .int (wn : Nat), rfl, rfl, hwq, atI_nat (j := 1) rfl, a, _, _, b', rfl, hb, hB, by omega, by omega, by omega, fun r0 b1 h0 h0' hB1 => ?_⟩
          have bY1 : But a Y (upd Y a (.lst b1)) := But.upd (But.refl a Y)
          have hb1 : (upd Y a (.lst b1)) a = some (.lst b1) := upd_same
          obtain ⟨Y1, eY1⟩ : ∃ Y1, Y1 = upd Y a (.lst b1) := ⟨_, rfl⟩
          rw [← eY1] at bY1 hb1 ⊢
          refine ⟨_, _, rfl, rfl, _, rfl, ?_⟩
          by_cases hr0 : 0 < r0
          · refine ifT (decide_eq_true hr0) ?_
            have ls1 := ls.go hb nea nfa noa bY1
            obtain ⟨ol1, ol2⟩ := ops_len roof
            refine ⟨_, rfl, _, rfl, a, lo, _, b1, nmV (opsOf roof), rfl, hb1, hB1, by omega, SqL.of ls1.lo, noa, by rw [nmV_len]; exact ol1, by rw [nmV_len]; omega, fun i2 ov b2 hov hB2 => ?_⟩
            have bY2 : But a Y (upd Y1 a (.lst b2)) := bY1.trans (But.upd (But.refl a Y1))
            have hb2 : (upd Y1 a (.lst b2)) a = some (.lst b2) := upd_same
            obtain ⟨Y2, eY2⟩ : ∃ Y2, Y2 = upd Y1 a (.lst b2) := ⟨_, rfl⟩
            rw [← eY2] at bY2 hb2 ⊢
            obtain ⟨op, hop, rfl⟩ : ∃ op, op ∈ opsOf roof ∧ ov = V.str (SX.S op) := by
              unfold nmV at hov
              rw [List.getElem?_map] at hov
              cases eo : (opsOf roof)[i2]? with
              | none => rw [eo] at hov; cases hov
              | some u => rw [eo] at hov; exact ⟨u, List.mem_of_getElem? eo, (Option.some.inj hov).symm⟩
            refine ⟨_, rfl, wq, _, 0, .bl wb, rfl, rfl, (KeepT.but hb bY2).seqT hwq, atI_nat (j := 0) rfl, wb, rfl, ?_⟩
            refine if_some (ta := tVar 13) (tb := tVar 8) (u := .ref lf) (v := .ref lk') (fun Q h => ⟨_, rfl, h⟩) (fun Q h => ⟨_, rfl, h⟩) ?_
            rw [esl]
            refine ⟨by show 0 ≤ sizeLine; decide, fun lp nlp => ⟨_, _, _, rfl, ?_⟩⟩
            have s3 := same_upd (o := .lst []) nlp
            have bY3 : But a Y (upd Y2 lp (.lst [])) := bY2.trans (But.of s3)
            have hb3 := s3 _ _ hb2
            have hlp3 : (upd Y2 lp (.lst [])) lp = some (.lst []) := upd_same
            obtain ⟨Y3, eY3⟩ : ∃ Y3, Y3 = upd Y2 lp (.lst []) := ⟨_, rfl⟩
            rw [← eY3] at bY3 hb3 hlp3 ⊢
            have nlpY : Y lp = none := But.free bY2 hb2 nlp
            have npa : lp ≠ a := fun z => by
              rw [z, hb] at nlpY
              cases nlpY
            -- its operands
            refine ⟨fun σ Z => ∃ (y18 y19 y20 : Option V) (ov b4 : List V) (os : List Od), σ = [some (.ref a), some (.ref gd), some rowv, some (.ref ph), some (.ref wq), some (.ref pt), some (.ref le), some (.ref lr), some (.ref lk'), some (.ref lo), y10, y11, y12, some (.ref lf), some x, some (.str (SX.S op)), some (.ref sl), some (.ref lp), y18, y19, y20, y21] ∧ But a Y Z ∧ Z lp = some (.lst ov) ∧ DpAll K Z ov (os.map Od.d) ∧ os.length = arOf op ∧ (∀ o ∈ os, OdOk rs mr o ∧ ∀ w ∈ odName o, w ∈ ks) ∧ Z a = some (.lst b4) ∧ BoxL (m + 40 + 20 * i + 20) b4, ?_, ?_⟩
            · refine fun dp ndp => ⟨upd_same, AR, rfl, by decide, dp, rfl, .inl ⟨_, Rd.of upd_same⟩, _, rfl, _, DGet.k (k := Sum.inr (SX.S op)) upd_same, ((arOf op : Nat) : Int), by rw [ar_get hop], by omega, by have := ar_le op; omega, ?_⟩
              have s4 : Same Y3 (upd (upd Y3 dp (.dK [])) dp (.dK (mergeK [] AR))) := Same.at_ (same_upd ndp) ndp
              obtain ⟨Y4, eY4⟩ : ∃ Y4, Y4 = upd (upd Y3 dp (.dK [])) dp (.dK (mergeK [] AR)) := ⟨_, rfl⟩
              rw [← eY4] at s4 ⊢
              refine for_range (lo := 0) (n := Int.toNat ((arOf op : Nat) : Int)) (fun j σ Z => ∃ (y18 y19 y20 : Option V) (ov b4 : List V) (os : List Od), σ = [some (.ref a), some (.ref gd), some rowv, some (.ref ph), some (.ref wq), some (.ref pt), some (.ref le), some (.ref lr), some (.ref lk'), some (.ref lo), y10, y11, y12, some (.ref lf), some x, some (.str (SX.S op)), some (.ref sl), some (.ref lp), y18, y19, y20, y21] ∧ But a Y Z ∧ Z lp = some (.lst ov) ∧ DpAll K Z ov (os.map Od.d) ∧ os.length = j ∧ (∀ o ∈ os, OdOk rs mr o ∧ ∀ w ∈ odName o, w ∈ ks) ∧ Z a = some (.lst b4) ∧ BoxL (m + 40 + 20 * i + 2 + 6 * j) b4)
                ⟨_, _, _, [], b2, [], rfl, bY3.trans (But.of s4), s4 _ _ hlp3, .nil, rfl, (fun r h => nomatch h), s4 _ _ hb3, hB2⟩ ?_ ?_
              · rintro j σ Z hj ⟨z18, z19, z20, ov, b4, os, rfl, btZ, hlpZ, hos, hol, hook, hb4, hB4⟩
                have hj3 : j < 3 := by
                  have := ar_le op
                  rw [Int.toNat_natCast] at hj
                  omega
                have lov := dpAll_len hos
                rw [List.length_map] at lov
                refine ⟨_, rfl, a, _, _, b4, rfl, hb4, hB4, by omega, by decide, by decide, fun w0 b5 h0 h0' hB5 => ?_⟩
                obtain ⟨ww, rfl⟩ := Int.eq_ofNat_of_zero_le h0
                have bZ1 : But a Z (upd Z a (.lst b5)) := But.upd (But.refl a Z)
                have hb5 : (upd Z a (.lst b5)) a = some (.lst b5) := upd_same
                obtain ⟨Z1, eZ1⟩ : ∃ Z1, Z1 = upd Z a (.lst b5) := ⟨_, rfl⟩
                rw [← eZ1] at bZ1 hb5 ⊢
                refine ⟨by show 1 ≤ sizeLine; decide, fun t1 n1 => ?_⟩
                have sA := same_upd (o := .tup [.str "own"]) n1
                have hb6 := sA _ _ hb5
                refine ⟨_, rfl, a, _, b5, rfl, hb6, hB5, by omega, fun Z3 rn b7 bt3 hb7 hB7 hrn hrn' => ⟨by show 2 ≤ sizeLine; decide, fun t2 n2 => ⟨by show 2 ≤ sizeLine; decide, fun l3 n3 => ?_⟩⟩⟩
                obtain ⟨rm, rfl⟩ := Int.eq_ofNat_of_zero_le hrn
                have sB := same_upd (o := .tup [.str "number", .int (rm : Nat)]) n2
                have sC := same_upd (o := .lst [.ref t1, .ref t2]) n3
                have bZ4 := ((bZ1.trans (But.of sA)).trans bt3).trans (But.of (a := a) (sB.trans sC))
                have hb8 := (sB.trans sC) _ _ hb7
                have d1 : Dp K Z3 (.ref t1) Od.own.d := dp_imm (KeepT.but hb6 bt3) (.tup (SqT.of upd_same) (.cons (.str _) .nil)) rfl
                have d2 : Dp K (upd Z3 t2 (.tup [.str "number", .int (rm : Nat)])) (.ref t2) (Od.num rm).d := .tup (SqT.of upd_same) (.cons (.str _) (.cons (.int _) .nil))
                have d1 := dp_same (sB.trans sC) d1
                have d2 := dp_same sC d2
                have hl3 : (upd (upd Z3 t2 (.tup [.str "number", .int (rm : Nat)])) l3 (.lst [.ref t1, .ref t2])) l3 = some (.lst [.ref t1, .ref t2]) := upd_same
                obtain ⟨Z4, eZ4⟩ : ∃ Z4, Z4 = upd (upd Z3 t2 (.tup [.str "number", .int (rm : Nat)])) l3 (.lst [.ref t1, .ref t2]) := ⟨_, rfl⟩
                rw [← eZ4] at bZ4 hb8 d1 d2 hl3 ⊢
                obtain ⟨v1, o1, hat, dv1, ok1, nm1⟩ : ∃ v1 o1, atI [V.ref t1, V.ref t2] (((ww : Nat) : Int) % 2) = some v1 ∧ Dp K Z4 v1 (Od.d o1) ∧ OdOk rs mr o1 ∧ odName o1 = [] := by
                  rcases Nat.mod_two_eq_zero_or_one ww with h | h
                  · exact ⟨_, .own, by rw [show ((ww : Nat) : Int) % 2 = ((0 : Nat) : Int) by omega]; exact atI_nat (j := 0) rfl, d1, trivial, rfl⟩
                  · exact ⟨_, .num rm, by rw [show ((ww : Nat) : Int) % 2 = ((1 : Nat) : Int) by omega]; exact atI_nat (j := 1) rfl, d2, (by show rm < 1000000; omega), rfl⟩
                refine ⟨_, rfl, _, _, rfl, rfl, by show (0 : Int) < 2; decide, l3, _, _, v1, rfl, rfl, SqL.of hl3, hat, ?_⟩
                have btZ4 := btZ.trans bZ4
                have hlp4 := bZ4 _ _ npa hlpZ
                have hos4 := dpAll_imm (KeepT.but hb4 bZ4) hos (immAll_map Od.imm os)
                -- one more
                have fin : ∀ (U : Hp) (v : V) (o : Od) (bu : List V), But a Z4 U → U a = some (.lst bu) → BoxL (m + 40 + 20 * i + 2 + 6 * j + 6) bu → Dp K U v o.d → OdOk rs mr o → (∀ w ∈ odName o, w ∈ ks) → ∃ (l : Addr) (xs : List V) (y : V), V.ref lp = .ref l ∧ [v] = [y] ∧ U l = some (.lst xs) ∧ xs.length < sizeLine ∧ ∃ (y18 y19 y20 : Option V) (ov b4 : List V) (os : List Od), [some (.ref a), some (.ref gd), some rowv, some (.ref ph), some (.ref wq), some (.ref pt), some (.ref le), some (.ref lr), some (.ref lk'), some (.ref lo), y10, y11, y12, some (.ref lf), some x, some (.str (SX.S op)), some (.ref sl), some (.ref lp), some (.int (0 + ((j : Nat) : Int))), some (.int ((ww : Nat) : Int)), some v1, y21] = [some (.ref a), some (.ref gd), some rowv, some (.ref ph), some (.ref wq), some (.ref pt), some (.ref le), some (.ref lr), some (.ref lk'), some (.ref lo), y10, y11, y12, some (.ref lf), some x, some (.str (SX.S op)), some (.ref sl), some (.ref lp), y18, y19, y20, y21] ∧ But a Y (upd U l (.lst (xs ++ [y]))) ∧ (upd U l (.lst (xs ++ [y]))) lp = some (.lst ov) ∧ DpAll K (upd U l (.lst (xs ++ [y]))) ov (os.map Od.d) ∧ os.length = j + 1 ∧ (∀ o ∈ os, OdOk rs mr o ∧ ∀ w ∈ odName o, w ∈ ks) ∧ (upd U l (.lst (xs ++ [y]))) a = some (.lst b4) ∧ BoxL (m + 40 + 20 * i + 2 + 6 * (j + 1)) b4 := fun U v o bu bU hbu hBu dv hov hnv => by
                  have hlpU := bU _ _ npa hlp4
                  have kk : KeepT U (upd U lp (.lst (ov ++ [v]))) := KeepT.at_ hlpU lst_no
                  refine ⟨lp, ov, v, rfl, rfl, hlpU, small1000 (by omega), _, _, _, ov ++ [v], bu, os ++ [o], rfl, fun c o nc hc => ?_, upd_same, ?_, ?_, fun o' ho' => ?_, ?_, hBu.mono (by omega)⟩
                  · rw [upd_ne (ne_of_none hc nlpY)]
                    exact (btZ4.trans bU) c o nc hc
                  · rw [List.map_append]
                    exact dpAll_appI (dpAll_imm ((KeepT.but hb8 bU).trans kk) hos4 (immAll_map Od.imm os)) (.cons (dp_imm kk dv o.imm) .nil)
                  · rw [List.length_append]
                    show os.length + 1 = j + 1
                    omega
                  · rcases List.mem_append.mp ho' with h | h
                    · exact hook o' h
                    · rw [List.mem_singleton.mp h]
                      exact ⟨hov, hnv⟩
                  · rw [upd_ne npa.symm]
                    exact hbu
                refine ⟨_, rfl, .inl ⟨rfl, _, SqL.of hlp4⟩, ?_⟩
                refine ⟨_, rfl, _, _, rfl, rfl, _, rfl, ?_⟩
                have hn1 : ∀ w ∈ odName o1, w ∈ ks := by rw [nm1]; exact fun w h => nomatch h
                have hsl4 := btZ4 _ _ nsa hsl
                have dsl4 := dpAll_imm (KeepT.but hb btZ4) dsl (immAll_map En.imm cs)
                have css : ∀ e ∈ cs, NmSmall (enW e) := fun e h => fss e (hcs e h)
                by_cases hw4 : ((ww : Nat) : Int) < 4
                · refine ifT (decide_eq_true hw4) ⟨_, rfl, by show 0 ≤ sizeLine; decide, fun l5 n5 => ?_⟩
                  have s5 := same_upd (o := .lst []) n5
                  refine ⟨.list (cs.map En.d), .list [], .lst (SqL.of (s5 _ _ hsl4)) (dpAll_same s5 dsl4), .lst (SqL.of upd_same) .nil, ens_shape css, by decide +kernel, _, rfl, ?_⟩
                  have hb9 := s5 _ _ hb8
                  have bU5 : But a Z4 (upd Z4 l5 (.lst [])) := But.of s5
                  have hsl5 := s5 _ _ hsl4
                  have dsl5 := dpAll_same s5 dsl4
                  obtain ⟨Z5, eZ5⟩ : ∃ Z5, Z5 = upd Z4 l5 (.lst []) := ⟨_, rfl⟩
                  rw [← eZ5] at s5 hb9 bU5 hsl5 dsl5 ⊢
                  rw [ens_nil]
                  by_cases hcn : cs = []
                  · refine ifF (by rw [decide_eq_true hcn]; rfl) ⟨_, rfl, ?_⟩
                    exact fin Z5 v1 o1 b7 bU5 hb9 (hB7.mono (by omega)) (dp_same s5 dv1) ok1 hn1
                  · refine ifT (by rw [decide_eq_false hcn]; rfl) ?_
                    refine ⟨_, rfl, _, rfl, 1, rfl, _, rfl, _, _, rfl, rfl, _, rfl, sl, xs, rfl, SqL.of hsl5, fun l6 n6 => ?_⟩
                    have s6 := same_upd (o := .lst (cutV xs (some (-1 - ((ww : Nat) : Int))) none)) n6
                    have hcut : cutV xs (some (-1 - ((ww : Nat) : Int))) none = xs.drop (xs.length - (ww + 1)) := cutV_back xs ww
                    have clp : 0 < cs.length := List.length_pos_iff.mpr hcn
                    refine ⟨a, l6, _, b7, _, rfl, s6 _ _ hb9, hB7, by omega, SqL.of upd_same, fun z => ?_, ?_, ?_, fun i3 v3 b8 hv3 hB8 => ?_⟩
                    · rw [z, hb9] at n6
                      cases n6
                    · rw [show (-1 : Int) - ((ww : Nat) : Int) = -1 - ((ww : Nat) : Int) from rfl, hcut, List.length_drop]
                      omega
                    · rw [hcut, List.length_drop]
                      omega
                    rw [hcut, List.getElem?_drop] at hv3
                    obtain ⟨dd3, hdd3, hd3⟩ := dpAll_at dsl5 hv3
                    rw [List.getElem?_map] at hdd3
                    obtain ⟨e3', he3, rfl⟩ : ∃ e3', cs[xs.length - (ww + 1) + i3]? = some e3' ∧ dd3 = e3'.d := by
                      cases h : cs[xs.length - (ww + 1) + i3]? with
                      | none => rw [h] at hdd3; cases hdd3
                      | some e => rw [h] at hdd3; exact ⟨e, rfl, (Option.some.inj hdd3).symm⟩
                    have hfe := hcs e3' (List.mem_of_getElem? he3)
                    refine fin _ v3 (.en e3') b8 (bU5.trans ((But.of s6).trans (But.upd (But.refl a _)))) upd_same (hB8.mono (by omega)) (dp_imm ((KeepT.of s6).trans (KeepT.at_ (s6 _ _ hb9) lst_no)) hd3 e3'.imm) (hfs e3' hfe).2 fun w hw => ?_
                    have hk3 := hok5 e3' (hfs e3' hfe).1
                    cases e3' with
                    | sp p w' => cases hw
                    | kept w' =>
                      rw [List.mem_singleton.mp hw]
                      exact hk3.2
                · refine ifF (decide_eq_false hw4) ⟨_, rfl, ?_⟩
                  exact fin Z4 v1 o1 b7 (But.refl a Z4) hb8 (hB7.mono (by omega)) dv1 ok1 hn1
              · rintro σ Z ⟨z18, z19, z20, ov, b4, os, rfl, btZ, hlpZ, hos, hol, hook, hb4, hB4⟩
                rw [Int.toNat_natCast] at hol hB4
                have := ar_le op
                exact ⟨_, _, _, ov, b4, os, rfl, btZ, hlpZ, hos, hol, hook, hb4, hB4.mono (by omega)⟩
            · rintro σ Z ⟨z18, z19, z20, ov, b4, os, rfl, btZ, hlpZ, hos, hol, hook, hb4, hB4⟩
              have kZ := KeepT.but hb btZ
              have lsZ := ls.go hb nea nfa noa btZ
              have hlrZ := btZ _ _ nra hlr
              have cZ := cx.but ha lsZ.bt
              obtain ⟨rq, rt, erv, hr1, hr2⟩ := row_at cZ.row
              subst erv
              refine ⟨_, rfl, .inl ⟨rfl, _, SqL.of hlrZ⟩, ?_⟩
              refine ⟨_, rfl, rq, _, 0, .str (SX.S mr.nm), rfl, rfl, hr1, atI_nat (j := 0) rfl, _, rfl, _, rfl, _, rfl, lp, ov, rfl, .inl ⟨SqL.of hlpZ, fun l7 n7 => ?_⟩⟩
              refine ⟨by show 4 ≤ sizeLine; decide, fun l8 n8 => ?_⟩
              have s7 := same_upd (o := .tup ov) n7
              have s8 := same_upd (o := .tup [.str (SX.S mr.nm), x, .str (SX.S op), .ref l7]) n8
              have dR : Dp K (upd (upd Z l7 (.tup ov)) l8 (.tup [.str (SX.S mr.nm), x, .str (SX.S op), .ref l7])) (.ref l8) (RRow.d ⟨mr.nm, e, op, os⟩) :=
                .tup (SqT.of upd_same) (.cons (.str _) (.cons (dp_imm (kZ.trans (KeepT.of (s7.trans s8))) hxd e.imm) (.cons (.str _) (.cons (dp_same s8 (.tup (SqT.of upd_same) (dpAll_same s7 hos))) .nil))))
              have s78 := s7.trans s8
              obtain ⟨U, eU⟩ : ∃ U, U = upd (upd Z l7 (.tup ov)) l8 (.tup [.str (SX.S mr.nm), x, .str (SX.S op), .ref l7]) := ⟨_, rfl⟩
              rw [← eU] at dR s78 ⊢
              have hlrU := s78 _ _ hlrZ
              have sl7 := rst.sub.length_le
              rw [List.length_map, List.length_take] at sl7
              have kU : KeepT U (upd U lr (.lst (rv ++ [.ref l8]))) := KeepT.at_ hlrU lst_no
              have lsU := (lsZ.go hb4 nea nfa noa (But.of s78)).put (rv' := rv ++ [.ref l8]) hlrU e1 nfr d7.symm nlr
              refine ⟨lr, rv, .ref l8, rfl, rfl, hlrU, small1000 (by omega), _, _, _, _, _, _, _, rv ++ [.ref l8], b4, ru ++ [⟨mr.nm, e, op, os⟩], rfl, lsU, upd_same, ?_, ?_, ?_, ⟨?_, fun r hr => ?_, rst.kf, rst.kl⟩, ?_, hB4.mono (by omega)⟩
              · rw [List.map_append]
                exact dpAll_appI (dpAll_imm ((kZ.trans (KeepT.of s78)).trans kU) hru (immAll_map RRow.imm ru)) (.cons (dp_imm kU dR (RRow.imm _)) .nil)
              · rw [upd_ne nkr']
                exact s78 _ _ (btZ _ _ nka' hlk)
              · exact dpAll_imm ((kZ.trans (KeepT.of s78)).trans kU) hkn (immAll_map En.imm kn)
              · rw [List.map_append, tk]
                exact rst.sub.append (List.Sublist.refl _)
              · rcases List.mem_append.mp hr with h | h
                · exact rst.ok r h
                · rw [List.mem_singleton.mp h]
                  exact ⟨rfl, tg, hop, hol, hook⟩
              · rw [upd_ne nra.symm]
                exact s78 _ _ hb4
          · refine ifF (decide_eq_false hr0) ?_
            exact noRule bY1 hb1 hB1
        · exact noRule (But.refl a Y) hb (hB.mono (by omega))
      · rintro σ Z ⟨y15, y16, y17, y18, y19, y20, y21, rv, b2, ru, rfl, ls2, hlr2, hru2, hlk2, hkn2, rst2, hb2, hB2⟩
        refine ⟨_, rfl, _, rfl, by show 1 ≤ sizeLine; decide, fun l1 n1 => ⟨l1, rfl, ⟨_, SqL.of upd_same⟩, fun D nD => ?_⟩⟩
        have s1 := same_upd (o := .lst [x]) n1
        have h1 : (upd Z l1 (.lst [x])) l1 = some (.lst [x]) := upd_same
        obtain ⟨Z1, eZ1⟩ : ∃ Z1, Z1 = upd Z l1 (.lst [x]) := ⟨_, rfl⟩
        rw [← eZ1] at s1 h1 nD ⊢
        refine lc_list (K := K) (a := l1) (xs := [x]) (fun j U => Same Z1 U ∧ ∃ (zs : List V) (cs : List En), U D = some (.lst zs) ∧ DpAll K U zs (cs.map En.d) ∧ (∀ e ∈ cs, e ∈ fs) ∧ cs.length ≤ j) ⟨same_upd nD, [], [], upd_same, .nil, (fun r h => nomatch h), Nat.le_refl _⟩ (fun j U _ h => SqL.of (h.1 _ _ h1)) ?_ ?_
        · rintro j x' U hx' ⟨sU, zs, cs, hD, hzs, hcs, hcl⟩
          obtain ⟨rfl, rfl⟩ : j = 0 ∧ x' = x := by
            cases j with
            | zero => exact ⟨rfl, (Option.some.inj hx').symm⟩
            | succ j => cases hx'
          have sZU := s1.trans sU
          have lz := dpAll_len hzs
          rw [List.length_map] at lz
          have hxU : Dp K U x' e.d := dp_same sZU (dpAll_look ls2.de hx he)
          refine ⟨rfl, _, rfl, _, rfl, e.d, fs.map En.d, hxU, .lst (SqL.of (sZU _ _ ls2.lf)) (dpAll_same sZU ls2.df), en_shape (small5 e hem), ens_shape fss, _, rfl, ?_⟩
          rw [ens_any]
          by_cases hin : e ∈ fs
          · refine ifT (decide_eq_true hin) ⟨_, rfl, zs, hD, small1000 (by omega), Same.at_ sU nD, zs ++ [x'], cs ++ [e], upd_same, ?_, fun e' he' => ?_, by rw [List.length_append]; show cs.length + 1 ≤ 0 + 1; omega⟩
            · rw [List.map_append]
              have kk : KeepT U (upd U D (.lst (zs ++ [x']))) := KeepT.at_ hD lst_no
              exact dpAll_appI (dpAll_imm kk hzs (immAll_map En.imm cs)) (.cons (dp_imm kk hxU e.imm) .nil)
            · rcases List.mem_append.mp he' with h | h
              · exact hcs e' h
              · rw [List.mem_singleton.mp h]
                exact hin
          · exact ifF (decide_eq_false hin) ⟨sU, zs, cs, hD, hzs, hcs, by omega⟩
        · rintro U ⟨sU, zs, cs, hD, hzs, hcs, hcl⟩
          have lz := dpAll_len hzs
          rw [List.length_map] at lz
          have sZU := s1.trans sU
          refine ⟨lk', D, kv, zs, rfl, rfl, sZU _ _ hlk2, hD, ?_, fun lk2 nlk2 => ?_⟩
          · refine Nat.le_trans (show _ ≤ 100 from ?_) (by decide)
            have := rst.kl
            have hcl : cs.length ≤ 1 := hcl
            omega
          have sN := same_upd (o := .lst (kv ++ zs)) nlk2
          have sA := sZU.trans sN
          have bA : But a Z (upd U lk2 (.lst (kv ++ zs))) := But.of sA
          refine ⟨some x, y15, y16, y17, y18, y19, y20, y21, lk2, kv ++ zs, rv, b2, kn ++ cs, ru, rfl, ls2.go hb2 nea nfa noa bA, sA _ _ hlr2, dpAll_same sA hru2, upd_same, ?_, ?_, ?_, ⟨rst2.sub, rst2.ok, fun e' he' => (List.mem_append.mp he').elim (rst2.kf e') (hcs e'), ?_⟩, sA _ _ hb2, hB2⟩
          · rw [List.map_append]
            exact dpAll_appI (dpAll_same sA hkn2) (dpAll_same sN hzs)
          · exact fun z => by
              have := sZU _ _ hb2
              rw [← z, nlk2] at this
              cases this
          · exact fun z => by
              have := sZU _ _ hlr2
              rw [← z, nlk2] at this
              cases this
          · rw [List.length_append]
            have := rst2.kl
            have hcl : cs.length ≤ 1 := hcl
            omega
    · rintro σ Y ⟨y14, y15, y16, y17, y18, y19, y20, y21, lk', kv, rv, b', kn, ru, rfl, ls, hlr, hru, hlk, hkn, nka', nkr', rst, hb, hB⟩
      have lvv := dpAll_len hds6
      rw [List.length_map] at lvv
      have sl := rst.sub.length_le
      rw [List.length_map, List.length_take] at sl
      refine ⟨_, rfl, q Y lr rv ru ks b' ls.bt nlr hlr hru ⟨fun r h => (rst.ok r h).1, fun r h => (rst.ok r h).2.1, rst.sub.nodup (List.Nodup.sublist (List.take_sublist _ _) hnd5), fun r h => (rst.ok r h).2.2.1, fun r h => (rst.ok r h).2.2.2.1, fun r h o ho => ((rst.ok r h).2.2.2.2 o ho).1, hk2, fun r h w hw => ?_, fun r h o ho => ((rst.ok r h).2.2.2.2 o ho).2, by omega⟩ hb (hB.mono (by omega))⟩
      have hm : r.tg ∈ es := List.mem_of_mem_take (rst.sub.mem (List.mem_map_of_mem h))
      have hk := hok5 _ hm
      cases et : r.tg with
      | sp p w' =>
        rw [et] at hw
        cases hw
      | kept w' =>
        rw [et] at hw hk
        rw [List.mem_singleton.mp hw]
        exact hk.2
end
/-! ### dict(pairs) whose keys are tuples, with tuples in them: a dict that isn't followed -/
mutual
def keyD : PyData → NestedKey
  | .tuple ds => .tup (keyDs ds)
  | .list _ => .none
  | .dict _ => .none
  | .none => .none
  | .bool b => .num (if b = true then 1 else 0)
  | .int i => .num i
  | .str x => .text x
def keyDs : List PyData → List NestedKey
  | [] => []
  | d :: ds => keyD d :: keyDs ds
end
section
variable {X : Cx} {pins : List (Addr × Obj)} {σ : L2.St} {H : Hp} {s : Shared}
mutual
theorem nst (I : Inv X pins σ H s) : ∀ {v : V} {d : PyData} {u : Value}, Dp X.K H v d → imm d = true → RelV v u → NestedIs s.heap (keyD d) u
  | _, _, u, .non, _, r => by
    obtain rfl : u = Value.none := r
    exact .none
  | _, _, u, .bl b, _, r => by
    obtain rfl : u = Value.bool b := r
    exact .bool rfl
  | _, _, u, .int i, _, r => by
    obtain ⟨t, rfl⟩ : ∃ t, u = Value.int i t := r
    exact .int i t
  | _, _, u, .str x, _, r => by
    obtain ⟨t, rfl⟩ : ∃ t, u = Value.str x t := r
    exact .text x t
  | _, _, u, .lst h a, i, _ => nomatch (show (false : Bool) = true from i)
  | _, _, u, .tup (a := p) h a, i, r => by
    obtain rfl : u = Value.ref p := r
    obtain ⟨its, rv, ⟨o, ho, hc, n, hd⟩, _⟩ := I.tuple h
    exact .tup ho hc hd (nstAll I a i rv)
theorem nstAll (I : Inv X pins σ H s) : ∀ {vs : List V} {ds : List PyData} {us : List Value}, DpAll X.K H vs ds → immAll ds = true → Vals vs us → NestedAll s.heap (keyDs ds) us
  | _, _, _, .nil, _, .nil => .nil
  | _, _, _, .cons h a, i, .cons r rs => .cons (nst I h (Bool.and_eq_true_iff.mp i).1 r) (nstAll I a (Bool.and_eq_true_iff.mp i).2 rs)
end
theorem pairsN (I : Inv X pins σ H s) : ∀ {ps : List Addr} {ks : List (Addr × PyData × V)}, Paired (fun p k => SqT X.K H p [.ref k.1, k.2.2] ∧ Dp X.K H (.ref k.1) k.2.1 ∧ imm k.2.1 = true ∧ (keyD k.2.1).depth ≤ 8) ps ks →
    ∃ prs : List (NestedKey × Addr × Value), prs.length = ps.length ∧ (∀ x ∈ prs, (nestedKind X.prog X.w).is s.heap x.1 x.2.1) ∧ ∀ (j : Nat) (x : NestedKey × Addr × Value), prs[j]? = some x → ∃ b, ps[j]? = some b ∧ IsTup s.heap b #[.ref x.2.1, x.2.2]
  | _, _, .nil => ⟨[], rfl, (fun x h => nomatch h), fun j x e => by simp at e⟩
  | _, _, .cons (a := p) (b := k) ⟨h1, h2, h3, h4⟩ t => by
    obtain ⟨prs, hl, his, hp⟩ := pairsN I t
    obtain ⟨its, rv, ht, _⟩ := I.tuple h1
    obtain ⟨u, y, ei, ru, ry⟩ := vals2 rv
    subst ei
    obtain rfl : u = Value.ref k.1 := ru
    refine ⟨(keyD k.2.1, k.1, y) :: prs, by rw [List.length_cons, List.length_cons, hl], fun x hx => ?_, fun j x e => ?_⟩
    · rcases List.mem_cons.mp hx with rfl | hx
      · exact ⟨nst I h2 h3 rfl, h4⟩
      · exact his x hx
    · cases j with
      | zero =>
        obtain rfl := Option.some.inj e
        exact ⟨p, rfl, ht⟩
      | succ j =>
        obtain ⟨b, e1, e2⟩ := hp j x (by simpa using e)
        exact ⟨b, by simpa using e1, e2⟩
end
theorem call_dictN {X : Cx} (hu : X.A.units + 65 < cLine) (hcalm : X.calm = true) : CallR X (.type "dict") (fun xs H Q => ∃ (a : Addr) (ps : List Addr) (ks : List (Addr × PyData × V)), xs = [.ref a] ∧ SqL X.K H a (ps.map V.ref) ∧
    Paired (fun p k => SqT X.K H p [.ref k.1, k.2.2] ∧ Dp X.K H (.ref k.1) k.2.1 ∧ imm k.2.1 = true ∧ (keyD k.2.1).depth ≤ 8) ps ks ∧ ∀ p, H p = none → Q (.ref p) H) := by
  intro pins s σ H xs us Q I r q
  obtain ⟨a, ps, ks, ex, hq, hp, q⟩ := q
  subst ex
  obtain ⟨u, eu, rx⟩ := vals1 r
  subst eu
  obtain rfl : u = Value.ref a := rx
  obtain ⟨its, rv, pl, hz⟩ := I.list hq
  have ei := refs_at rv
  subst ei
  rw [List.length_map] at hz
  obtain ⟨prs, hl, his, hpr⟩ := pairsN I hp
  obtain ⟨o, n, ho, hc, hd, hdat⟩ := pl
  have P := PairArg.list (prog := X.prog) (w := X.w) a (ps.map Value.ref).toArray (fun j => ps.getD j 0) (prs.map fun x => (Value.ref x.2.1, x.2.2))
  have rel : ∀ (j : Nat) (k v : Value), (prs.map fun x => (Value.ref x.2.1, x.2.2))[j]? = some (k, v) → ∃ x, prs[j]? = some x ∧ k = .ref x.2.1 ∧ v = x.2.2 := fun j k v e => by
    rw [List.getElem?_map] at e
    cases e' : prs[j]? with
    | none => rw [e'] at e; cases e
    | some x =>
      rw [e'] at e
      cases e
      exact ⟨x, rfl, rfl, rfl⟩
  refine dict_keyed (knd := nestedKind X.prog X.w) (kvs := pairsH prs) nestedKind_stays P (I.ok.hd hcalm) ?_ ⟨⟨o, n, ho, hc, hd, hdat⟩, ?_, fun j k v e => ?_⟩ ⟨prs, rfl, ⟨?_, fun i key v e => ?_⟩, his⟩ (nestedKind_stays.all) ?_ fun h' tk hd' hk => ?_
  · show X.A.units + 1 + 1 + 8 < cLine
    omega
  · simp [hl]
  · obtain ⟨x, e1, rfl, rfl⟩ := rel j k v e
    obtain ⟨b, e2, e3⟩ := hpr j x e1
    refine ⟨?_, .inl ?_⟩
    · simp [e2]
    · simp only [List.getD, e2, Option.getD_some]
      exact e3
  · rw [List.length_map]
  · obtain ⟨x, e1, rfl, rfl⟩ := rel i key v e
    exact ⟨x.1, x.2.1, e1, rfl⟩
  · rw [List.length_map, hl]
    exact hz
  · exact ⟨.ref s.heap.objs.size, H, I.kept fun b u e => hk b u (by simp) e, rfl, q _ (I.hok.fresh (Nat.le_refl _))⟩
/-! ### strewn, handed a tuple -/
def spStrewnT (K : PySem.W.Frag) : Sp := fun vs H Q _ => ∃ (a sl : Addr) (m : Nat) (b xs : List V), vs = [.ref a, .ref sl] ∧ H a = some (.lst b) ∧ BoxL m b ∧ m + xs.length < 900000 ∧ SqT K H sl xs ∧ xs.length ≤ 100000 ∧
  ∀ (H' : Hp) (l : Addr) (ys b' : List V), But a H H' → H l = none → H' l = some (.lst ys) → ys.Perm xs → H' a = some (.lst b') → BoxL (m + xs.length) b' → Q (.ref l) H'
section
variable {P : Program} {w : World} {K : PySem.W.Frag} {mg : Str → Option Value} {base : Heap}
theorem ok_strewnT (T : Bt mg) (c_law_take : C8.Cal P w K mg base 1 "_law_take" spTake []) (D : Dd K mg "_law_strewn" s__law_strewn P__law_strewn) : C8.Cal P w K mg base 2 "_law_strewn" (spStrewnT K) [] := by
  refine D.cal sc__law_strewn (fun vs H Q E h => ?_) (fun f cdv A outer s H vs Q E hr h => ?_)
  · obtain ⟨a, sl, m, b, xs, rfl, _⟩ := h
    rfl
  · obtain ⟨a, sl, m, b, xs, rfl, ha, hB, hm, hS, h1, q⟩ := h
    refine ⟨_, (pss_cons (ps_set (i := 2) sc__law_strewn.nd rfl (Or.inl rfl) (pe_lst pa_nil))
        (pss_cons (ps_for PassesOwn.never rfl (pi_tup (pv 1)) (pg_name (i := 3) sc__law_strewn.nd rfl (Or.inl rfl))
          (pss_one (ps_expr (pe_bm PySem.F.plainAttrs_list PySem.F.slot_list_insert PySem.F.type_list_insert mt_insert (pv 2) (pa_cons (C8.pe_c c_law_take hr (by decide) (by rfl) (pa_cons (pv 0) (pa_cons (pe_op op_add (pe_callB call_len_seq (by rfl) T.len PySem.boot_len (pa_cons (pv 2) pa_nil)) pe_int) pa_nil))) (pa_cons (pv 3) pa_nil))))))
        (pss_one (ps_ret (pv 2))))), ?_⟩
    refine ⟨by show 0 ≤ sizeLine; decide, fun l nl => ?_⟩
    have nla : a ≠ l := ne_of_none ha nl
    have s1 := same_upd (o := .lst []) nl
    refine ⟨_, rfl, sl, rfl, ⟨_, Same.seqT s1 hS⟩, for_tup (K := K) (a := sl) (xs := xs) (fun i σ H3 => ∃ y ys b', σ = [some (.ref a), some (.ref sl), some (.ref l), y] ∧ But a H H3 ∧ H3 l = some (.lst ys) ∧ ys.Perm (xs.take i) ∧ H3 a = some (.lst b') ∧ BoxL (m + i) b' ∧ i ≤ xs.length)
      ⟨none, [], b, rfl, But.of s1, upd_same, .nil, s1 _ _ ha, hB, Nat.zero_le _⟩ (fun i σ H3 _ ⟨_, _, _, _, bt, _⟩ => (KeepT.but ha bt).seqT hS) ?_ ?_⟩
    · rintro i x σ H3 hx ⟨y, ys, b', rfl, bt, hl, hp, hb', hB', hi⟩
      have hi2 : i < xs.length := (List.getElem?_eq_some_iff.mp hx).1
      have ly : ys.length = i := by
        rw [hp.length_eq, List.length_take]
        omega
      refine ⟨_, rfl, .inl ⟨rfl, _, SqL.of hl⟩, _, rfl, _, rfl, l, ys, rfl, .inl (SqL.of hl), _, _, rfl, rfl, a, _, _, b', rfl, hb', hB', by omega, by omega, by omega, fun r b2 r0 r1 hB2 => ?_⟩
      have hl2 : (upd H3 a (.lst b2)) l = some (.lst ys) := by
        rw [upd_ne nla.symm]
        exact hl
      refine ⟨_, rfl, l, ys, r, x, rfl, rfl, hl2, by rw [ly]; exact Nat.lt_of_le_of_lt (Nat.le_of_lt hi2) (Nat.lt_of_le_of_lt h1 (by decide)), r0, by omega, ?_⟩
      have bt2 : But a H (upd (upd H3 a (.lst b2)) l (.lst (ys.take r.toNat ++ [x] ++ ys.drop r.toNat))) := fun c o nc hc => by
        rw [upd_ne (ne_of_none hc nl), upd_ne nc]
        exact bt _ _ nc hc
      refine ⟨_, _, b2, rfl, bt2, upd_same, ?_, by rw [upd_ne nla, upd_same], hB2, by omega⟩
      rw [List.take_add_one, hx]
      refine List.Perm.trans ?_ (List.Perm.append hp (List.Perm.refl [x]))
      rw [List.append_assoc]
      refine List.Perm.trans (List.Perm.append_left _ List.perm_append_comm) ?_
      rw [← List.append_assoc, List.take_append_drop]
    · rintro σ H3 ⟨y, ys, b', rfl, bt, hl, hp, hb', hB', hi⟩
      rw [List.take_length] at hp
      exact ⟨_, rfl, q _ l ys b' bt nl hl hp hb' hB'⟩
end
/-! ### dicts of rows -/
theorem merge_out (k : Key) : ∀ (kvs acc : List (Key × V)), k ∉ kvs.map (·.1) → valV (mergeK acc kvs) k = valV acc k
  | [], acc, _ => rfl
  | p :: kvs, acc, h => by
    show valV (mergeK (putK acc p.1 p.2) kvs) k = _
    rw [merge_out k kvs _ fun z => h (List.mem_cons_of_mem _ z), valV_put, if_neg fun z => h (by rw [z]; exact List.mem_cons_self ..)]
theorem merge_in : ∀ (kvs acc : List (Key × V)), (kvs.map (·.1)).Nodup → ∀ p ∈ kvs, valV (mergeK acc kvs) p.1 = some p.2
  | [], _, _, p, h => nomatch h
  | q :: kvs, acc, hn, p, h => by
    rw [List.map_cons, List.nodup_cons] at hn
    show valV (mergeK (putK acc q.1 q.2) kvs) p.1 = _
    rcases List.mem_cons.mp h with rfl | h
    · rw [merge_out p.1 kvs _ hn.1, valV_put, if_pos rfl]
    · exact merge_in kvs _ hn.2 p h
/-- a row of three: a name, and two more -/
structure T3 where
  k : List Nat
  d1 : PyData
  d2 : PyData
def T3.d (t : T3) : PyData := .tuple [strD t.k, t.d1, t.d2]
def T3.r (t : T3) : PyData := .tuple [t.d1, t.d2]
def kS (k : List Nat) : Key := Sum.inr (SX.S k)
theorem kS_inj {a b : List Nat} (h : kS a = kS b) : a = b := SX.S_inj (Sum.inr.inj h)
def Prs (K : PySem.W.Frag) (U : Hp) (ps : List Addr) (ts : List T3) : Prop := Paired (fun p t => ∃ v, SqT K U p [.str (SX.S t.k), v] ∧ Dp K U v t.r) ps ts
theorem Prs.kvs {K : PySem.W.Frag} {U : Hp} : ∀ {ps : List Addr} {ts : List T3}, Prs K U ps ts → ∃ kvs : List (Key × V), Paired (fun p kv => SqT K U p [kV kv.1, kv.2]) ps kvs ∧ kvs.map (·.1) = ts.map (fun t => kS t.k) ∧ ∀ t ∈ ts, ∃ v, (kS t.k, v) ∈ kvs ∧ Dp K U v t.r
  | _, _, .nil => ⟨[], .nil, rfl, fun t h => nomatch h⟩
  | _, _, .cons (b := t0) ⟨v, h1, h2⟩ r => by
    obtain ⟨kvs, q1, q2, q3⟩ := Prs.kvs r
    refine ⟨(kS t0.k, v) :: kvs, .cons h1 q1, by rw [List.map_cons, List.map_cons, q2], fun t ht => ?_⟩
    rcases List.mem_cons.mp ht with rfl | ht
    · exact ⟨v, List.mem_cons_self .., h2⟩
    · obtain ⟨v', h3, h4⟩ := q3 t ht
      exact ⟨v', List.mem_cons_of_mem _ h3, h4⟩
theorem paired_snoc {α β : Type} {R : α → β → Prop} : ∀ {xs : List α} {ys : List β} {x : α} {y : β}, Paired R xs ys → R x y → Paired R (xs ++ [x]) (ys ++ [y])
  | _, _, _, _, .nil, h => .cons h .nil
  | _, _, _, _, .cons a r, h => .cons a (paired_snoc r h)
theorem paired_mono {α β : Type} {R S : α → β → Prop} (f : ∀ a b, R a b → S a b) : ∀ {xs : List α} {ys : List β}, Paired R xs ys → Paired S xs ys
  | _, _, .nil => .nil
  | _, _, .cons a r => .cons (f _ _ a) (paired_mono f r)
theorem paired_len {α β : Type} {R : α → β → Prop} : ∀ {xs : List α} {ys : List β}, Paired R xs ys → xs.length = ys.length
  | _, _, .nil => rfl
  | _, _, .cons _ r => by rw [List.length_cons, List.length_cons, paired_len r]
theorem t3_at {K : PySem.W.Frag} {H : Hp} {v : V} {t : T3} (h : Dp K H v t.d) : ∃ q v1 v2, v = .ref q ∧ SqT K H q [.str (SX.S t.k), v1, v2] ∧ Dp K H v1 t.d1 ∧ Dp K H v2 t.d2 := by
  cases h with
  | tup hS hA =>
    cases hA with
    | cons a1 hA =>
      cases hA with
      | cons a2 hA =>
        cases hA with
        | cons a3 hA =>
          cases hA
          cases a1
          exact ⟨_, _, _, rfl, hS, a2, a3⟩
theorem prs_keep {K : PySem.W.Frag} {U U' : Hp} (k : KeepT U U') {ps : List Addr} {ts : List T3} (hi : ∀ t ∈ ts, imm t.r = true) (h : Prs K U ps ts) : Prs K U' ps ts := by
  unfold Prs at *
  induction h with
  | nil => exact .nil
  | cons a r ih =>
    obtain ⟨v, h1, h2⟩ := a
    exact .cons ⟨v, k.seqT h1, dp_imm k h2 (hi _ (List.mem_cons_self ..))⟩ (ih fun t ht => hi t (List.mem_cons_of_mem _ ht))
/-- [(row[0], row[1:]) for row in rows] -/
theorem lc_of {K : PySem.W.Frag} {L D : Addr} {vs : List V} {ts : List T3} {x0 x1 x2 x3 x4 x5 x6 x7 x8 x9 x10 x11 : Option V} {Y : Hp} {Qd : Hp → Prop} (hL : Y L = some (.lst vs)) (hv : DpAll K Y vs (ts.map T3.d)) (hi : ∀ t ∈ ts, imm t.r = true) (hl : ts.length ≤ 100) (nD : Y D = none)
    (hd : ∀ (U : Hp) (ps : List Addr), Same Y U → U D = some (.lst (ps.map V.ref)) → Prs K U ps ts → Qd U) :
    ∃ W : Nat → Nat → Hp → Prop, (∃ m, W 0 m (upd Y D (.lst []))) ∧ ∀ i m H, W i m H →
      ((Itl K L).stop i H ∧ Qd H) ∨ ((Itl K L).go i H ∧ ∃ Nx : Hp → Prop, (∀ H', Nx H' → ∃ m', m' < m ∧ W (i + 1) m' H') ∧ ∀ x H', (Itl K L).yld i H x H' → gName 10 x (wipe [x0, x1, x2, x3, x4, x5, x6, x7, x8, x9, x10, x11] [10]) H' fun σ2 H2 => wipe σ2 [10] = wipe [x0, x1, x2, x3, x4, x5, x6, x7, x8, x9, x10, x11] [10] ∧ tYes σ2 H2 fun b H3 =>
        if b = true then tTup (tCons (tOp (rIxT K) (tVar 10) (tC (V.int 0))) (tCons (tSl (rSlAny K) (tVar 10) (tPart (tC (V.int 1))) tNoPart) tNil)) σ2 H3 fun y H4 => ∃ acc, H4 D = some (.lst acc) ∧ acc.length < sizeLine ∧ Nx (upd H4 D (.lst (acc ++ [y]))) else Nx H3) := by
  have lv := dpAll_len hv
  rw [List.length_map] at lv
  refine lc_list (K := K) (a := L) (xs := vs) (fun j U => Same Y U ∧ ∃ ps : List Addr, U D = some (.lst (ps.map V.ref)) ∧ Prs K U ps (ts.take j)) ⟨same_upd nD, [], upd_same, .nil⟩ (fun j U _ h => SqL.of (h.1 _ _ hL)) ?_ ?_
  · rintro j x U hx ⟨sU, ps, hD, hp⟩
    obtain ⟨dd, hdd, hxd⟩ := dpAll_at hv hx
    rw [List.getElem?_map] at hdd
    obtain ⟨t, ht, rfl⟩ : ∃ t, ts[j]? = some t ∧ dd = t.d := by
      cases h : ts[j]? with
      | none => rw [h] at hdd; cases hdd
      | some e => rw [h] at hdd; exact ⟨e, rfl, (Option.some.inj hdd).symm⟩
    have hj : j < ts.length := (List.getElem?_eq_some_iff.mp ht).1
    have tk : ts.take (j + 1) = ts.take j ++ [t] := by rw [List.take_add_one, ht]; rfl
    have lp := paired_len hp
    rw [List.length_take] at lp
    obtain ⟨q, v1, v2, rfl, hq, h1, h2⟩ := t3_at (dp_same sU hxd)
    refine ⟨rfl, yesT ?_⟩
    refine ⟨_, rfl, q, _, 0, .str (SX.S t.k), rfl, rfl, hq, atI_nat (j := 0) rfl, _, rfl, 1, rfl, q, _, rfl, hq, fun U2 t2 s2 ht2 => ?_⟩
    have ht2 : SqT K U2 t2 [v1, v2] := ht2
    refine ⟨by show 2 ≤ sizeLine; decide, fun p3 n3 => ?_⟩
    have s3 := same_upd (o := .tup [.str (SX.S t.k), .ref t2]) n3
    have s23 := s2.trans s3
    have hD3 := s23 _ _ hD
    refine ⟨_, hD3, small1000 (by rw [List.length_map]; omega), ?_, ps ++ [p3], ?_, ?_⟩
    · exact Same.at_ (sU.trans s23) nD
    · rw [List.map_append]
      exact upd_same
    · rw [tk]
      have kk : KeepT (upd U2 p3 (.tup [.str (SX.S t.k), .ref t2])) (upd (upd U2 p3 (.tup [.str (SX.S t.k), .ref t2])) D (.lst (ps.map V.ref ++ [.ref p3]))) := KeepT.at_ hD3 lst_no
      have hit := hi t (List.mem_of_getElem? ht)
      have dv : Dp K U2 (.ref t2) t.r := .tup ht2 (.cons (dp_same s2 h1) (.cons (dp_same s2 h2) .nil))
      exact paired_snoc (prs_keep ((KeepT.of s23).trans kk) (fun t h => hi t (List.mem_of_mem_take h)) hp) ⟨.ref t2, kk.seqT (SqT.of upd_same), dp_imm ((KeepT.of s3).trans kk) dv hit⟩
  · rintro U ⟨sU, ps, hD, hp⟩
    rw [lv, List.take_length] at hp
    exact hd U ps sU hD hp
/-! ### a grammar on the heap, while it is drawn -/
theorem merge_keys : ∀ (kvs acc : List (Key × V)), ((acc ++ kvs).map (·.1)).Nodup → (mergeK acc kvs).map (·.1) = (acc ++ kvs).map (·.1)
  | [], acc, _ => by
    rw [List.append_nil]
    rfl
  | p :: kvs, acc, h => by
    show (mergeK (putK acc p.1 p.2) kvs).map (·.1) = _
    have e : putK acc p.1 p.2 = acc ++ [p] := by
      unfold putK
      rw [if_neg]
      intro z
      obtain ⟨x, hx, ex⟩ := List.any_eq_true.mp z
      rw [List.map_append, List.map_cons] at h
      exact (List.nodup_append.mp h).2.2 x.1 (List.mem_map_of_mem hx) p.1 (List.mem_cons_self ..) (of_decide_eq_true ex)
    rw [e, merge_keys kvs (acc ++ [p]) (by rw [List.append_assoc]; exact h), List.append_assoc]
    rfl
structure Gs (K : PySem.W.Frag) (H Y : Hp) (a gd ls lm lr of : Addr) (rs : List SRow) (ms : List MRow) (ru : List RRow) (roof : Nat) (kvs : List (Key × V)) : Prop where
  bt : But a H Y
  hgd : Y gd = some (.dK kvs)
  nH : H gd = none
  cap : valV kvs (Sum.inr "cap") = some (.int (roof : Nat))
  so : valV kvs (Sum.inr "sorts") = some (.ref ls)
  mak : valV kvs (Sum.inr "makings") = some (.ref lm)
  rl : valV kvs (Sum.inr "rules") = some (.ref lr)
  ofv : valV kvs (Sum.inr "of") = some (.ref of)
  hls : ∃ sv, Y ls = some (.lst sv) ∧ DpAll K Y sv (rs.map SRow.d)
  hlm : ∃ mv, Y lm = some (.lst mv) ∧ DpAll K Y mv (ms.map MRow.d)
  hlr : ∃ rv, Y lr = some (.lst rv) ∧ DpAll K Y rv (ru.map RRow.d)
  hof : ∃ ofk, Y of = some (.dK ofk) ∧ ofk.map (·.1) = rs.map (fun r => kS r.nm) ∧ ∀ r ∈ rs, ∃ v, valV ofk (kS r.nm) = some v ∧ Dp K Y v (.tuple [.tuple (r.dn.map strD), .tuple (r.up.map strD)])
  n1 : ls ≠ a
  n2 : lm ≠ a
  n3 : lr ≠ a
  n4 : of ≠ gd
theorem up_imm (r : SRow) : imm (.tuple [.tuple (r.dn.map strD), .tuple (r.up.map strD)]) = true := by
  show (immAll (r.dn.map strD) && (immAll (r.up.map strD) && true)) = true
  rw [immAll_map strD_imm, immAll_map strD_imm]
  rfl
theorem Gs.go {K : PySem.W.Frag} {H Y Z : Hp} {a gd ls lm lr of : Addr} {rs : List SRow} {ms : List MRow} {ru : List RRow} {roof : Nat} {kvs : List (Key × V)} {b : List V} (h : Gs K H Y a gd ls lm lr of rs ms ru roof kvs) (hb : Y a = some (.lst b)) (t : But a Y Z) : Gs K H Z a gd ls lm lr of rs ms ru roof kvs := by
  have k := KeepT.but hb t
  have nd : ∀ {d : Addr} {kv : List (Key × V)}, Y d = some (.dK kv) → d ≠ a := fun {d kv} h z => by
    rw [z, hb] at h
    cases h
  obtain ⟨sv, l1, l2⟩ := h.hls
  obtain ⟨mv, m1, m2⟩ := h.hlm
  obtain ⟨rv, r1, r2⟩ := h.hlr
  obtain ⟨ofk, o1, oks, o2⟩ := h.hof
  exact ⟨h.bt.trans t, t _ _ (nd h.hgd) h.hgd, h.nH, h.cap, h.so, h.mak, h.rl, h.ofv, ⟨sv, t _ _ h.n1 l1, dpAll_imm k l2 (immAll_map SRow.imm rs)⟩, ⟨mv, t _ _ h.n2 m1, dpAll_imm k m2 (immAll_map MRow.imm ms)⟩, ⟨rv, t _ _ h.n3 r1, dpAll_imm k r2 (immAll_map RRow.imm ru)⟩, ⟨ofk, t _ _ (nd o1) o1, oks, fun r hr => by
    obtain ⟨v, h1, h2⟩ := o2 r hr
    exact ⟨v, h1, dp_imm k h2 (up_imm r)⟩⟩, h.n1, h.n2, h.n3, h.n4⟩
/-- g[..] = .. -/
theorem Gs.set {K : PySem.W.Frag} {H Y : Hp} {a gd ls lm lr of lm' lr' : Addr} {rs : List SRow} {ms ms' : List MRow} {ru ru' : List RRow} {roof : Nat} {kvs kvs' : List (Key × V)} (h : Gs K H Y a gd ls lm lr of rs ms ru roof kvs)
    (hlm : ∃ mv, Y lm' = some (.lst mv) ∧ DpAll K Y mv (ms'.map MRow.d)) (n2 : lm' ≠ a) (hlr : ∃ rv, Y lr' = some (.lst rv) ∧ DpAll K Y rv (ru'.map RRow.d)) (n3 : lr' ≠ a)
    (cap : valV kvs' (Sum.inr "cap") = some (.int (roof : Nat))) (so : valV kvs' (Sum.inr "sorts") = some (.ref ls)) (mak : valV kvs' (Sum.inr "makings") = some (.ref lm')) (rl : valV kvs' (Sum.inr "rules") = some (.ref lr')) (ofv : valV kvs' (Sum.inr "of") = some (.ref of)) :
    Gs K H (upd Y gd (.dK kvs')) a gd ls lm' lr' of rs ms' ru' roof kvs' := by
  have k : KeepT Y (upd Y gd (.dK kvs')) := KeepT.at_ h.hgd dK_no
  have nl : ∀ {d : Addr} {xs : List V}, Y d = some (.lst xs) → d ≠ gd := fun {d xs} h' z => by
    rw [z, h.hgd] at h'
    cases h'
  obtain ⟨sv, l1, l2⟩ := h.hls
  obtain ⟨mv, m1, m2⟩ := hlm
  obtain ⟨rv, r1, r2⟩ := hlr
  obtain ⟨ofk, o1, oks, o2⟩ := h.hof
  refine ⟨fun c o nc hc => ?_, upd_same, h.nH, cap, so, mak, rl, ofv, ⟨sv, ?_, dpAll_imm k l2 (immAll_map SRow.imm rs)⟩, ⟨mv, ?_, dpAll_imm k m2 (immAll_map MRow.imm ms')⟩, ⟨rv, ?_, dpAll_imm k r2 (immAll_map RRow.imm ru')⟩, ⟨ofk, ?_, oks, fun r hr => ?_⟩, h.n1, n2, n3, h.n4⟩
  · rw [upd_ne (ne_of_none hc h.nH)]
    exact h.bt c o nc hc
  · rw [upd_ne (nl l1)]; exact l1
  · rw [upd_ne (nl m1)]; exact m1
  · rw [upd_ne (nl r1)]; exact r1
  · rw [upd_ne h.n4]; exact o1
  · obtain ⟨v, h1, h2⟩ := o2 r hr
    exact ⟨v, h1, dp_imm k h2 (up_imm r)⟩
/-- the phases -/
def Ph (Y : Hp) (a ph : Addr) (rs : List SRow) (phs : List Nat → List (List Nat)) : Prop := ∃ phk, Y ph = some (.dK phk) ∧ ∀ r ∈ rs, ∃ pl, valV phk (Sum.inr (SX.S r.nm)) = some (.ref pl) ∧ pl ≠ a ∧ Y pl = some (.lst (nmV (phs r.nm))) ∧ (phs r.nm).Perm (r.dn ++ r.up)
theorem Ph.go {Y Z : Hp} {a ph : Addr} {rs : List SRow} {phs : List Nat → List (List Nat)} {b : List V} (h : Ph Y a ph rs phs) (hb : Y a = some (.lst b)) (t : But a Y Z) : Ph Z a ph rs phs := by
  obtain ⟨phk, p1, p2⟩ := h
  refine ⟨phk, t _ _ (fun z => by rw [z, hb] at p1; cases p1) p1, fun r hr => ?_⟩
  obtain ⟨pl, h1, h2, h3, h4⟩ := p2 r hr
  exact ⟨pl, h1, h2, t _ _ h2 h3, h4⟩
theorem Ph.set {Y : Hp} {a ph gd : Addr} {rs : List SRow} {phs : List Nat → List (List Nat)} {kvs kvs' : List (Key × V)} (h : Ph Y a ph rs phs) (hg : Y gd = some (.dK kvs)) (n : ph ≠ gd) : Ph (upd Y gd (.dK kvs')) a ph rs phs := by
  obtain ⟨phk, p1, p2⟩ := h
  refine ⟨phk, by rw [upd_ne n]; exact p1, fun r hr => ?_⟩
  obtain ⟨pl, h1, h2, h3, h4⟩ := p2 r hr
  exact ⟨pl, h1, h2, by rw [upd_ne (fun z => by rw [z, hg] at h3; cases h3)]; exact h3, h4⟩
def sT (r : SRow) : T3 := ⟨r.nm, .tuple (r.dn.map strD), .tuple (r.up.map strD)⟩
def mT (r : MRow) : T3 := ⟨r.nm, strD r.so, .tuple (r.pt.map strD)⟩
theorem sT_d (rs : List SRow) : rs.map SRow.d = (rs.map sT).map T3.d := by
  rw [List.map_map]
  rfl
theorem mT_d (ms : List MRow) : ms.map MRow.d = (ms.map mT).map T3.d := by
  rw [List.map_map]
  rfl
/-- the rules of all makings -/
inductive RuAll (rs : List SRow) (roof : Nat) : List MRow → List RRow → Prop
  | nil : RuAll rs roof [] []
  | snoc {ms : List MRow} {ru pr : List RRow} {mr : MRow} {ks : List (List Nat)} : RuAll rs roof ms ru → RulesOk rs mr roof ks pr → RuAll rs roof (ms ++ [mr]) (ru ++ pr)
structure MOk (rs : List SRow) (mr : MRow) : Prop where
  nm : NmOk mr.nm
  so : ∀ k ∈ mr.places, ∃ r ∈ rs, r.nm = k
  p2 : mr.pt.length ≤ 2
structure GramOk (rs : List SRow) (ms : List MRow) (ru : List RRow) (roof : Nat) : Prop where
  so : SortsOk rs
  s1 : 1 ≤ rs.length
  nd : (ms.map MRow.nm).Nodup
  ok : ∀ m ∈ ms, MOk rs m
  m8 : ms.length ≤ 8
  m1 : rs.length ≤ ms.length
  ru : RuAll rs roof ms ru
  rf : roof ≤ 9
structure GramIn (K : PySem.W.Frag) (Y : Hp) (a gd : Addr) (rs : List SRow) (ms : List MRow) (ru : List RRow) (roof : Nat) : Prop where
  ex : ∃ ls lm lr of kvs, Gs K (fun _ => none) Y a gd ls lm lr of rs ms ru roof kvs ∧ ∃ by_ byk, valV kvs (Sum.inr "by") = some (.ref by_) ∧ by_ ≠ gd ∧ Y by_ = some (.dK byk) ∧ byk.map (·.1) = ms.map (fun m => kS m.nm) ∧ ∀ m ∈ ms, ∃ v, valV byk (kS m.nm) = some v ∧ Dp K Y v (.tuple [strD m.so, .tuple (m.pt.map strD)])
abbrev s__law_drawn : Stmt := top 67
abbrev N__law_drawn : List Str := ["_law_box", "_law_roof", "_law_wild", "_law_kinds", "_law_g", "_law_phases", "_law_k", "_law_name", "_law_kind", "_law_size", "_law_row", "_law_turn"]
abbrev P__law_drawn : List Str := ["_law_box", "_law_roof", "_law_wild"]
theorem sc__law_drawn : FnScope N__law_drawn P__law_drawn (defScope s__law_drawn) := ⟨rfl, rfl, rfl, by decide +kernel, rfl, by decide +kernel, by decide +kernel⟩
structure Dw (mg : Str → Option Value) : Prop where
  range : mg "range" = none
  len : mg "len" = none
  dict : mg "dict" = none
  tuple : mg "tuple" = none
  enumerate : mg "enumerate" = none
def spDrawn (K : PySem.W.Frag) : Sp := fun vs H Q _ => ∃ (a : Addr) (roof m : Nat) (wv : V) (wb : Bool) (wn : Nat) (b : List V), vs = [.ref a, .int roof, wv] ∧ Dp K H wv (.tuple [.bool wb, .int (wn : Nat)]) ∧ 0 < wn ∧ wn < 1000000 ∧ roof ≤ 9 ∧ H a = some (.lst b) ∧ BoxL m b ∧ m + 8000 < 900000 ∧
  ∀ (H' : Hp) (gd : Addr) (rs : List SRow) (ms : List MRow) (ru : List RRow) (b' : List V), But a H H' → H gd = none → GramIn K H' a gd rs ms ru roof → GramOk rs ms ru roof → H' a = some (.lst b') → BoxL (m + 8000) b' → Q (.ref gd) H'
theorem find_row {xs : List (SRow × Addr × List (List Nat))} (hn : (xs.map fun x => x.1.nm).Nodup) : ∀ x ∈ xs, xs.find? (fun y => decide (y.1.nm = x.1.nm)) = some x := by
  induction xs with
  | nil => exact fun x h => nomatch h
  | cons y ys ih =>
    intro x hx
    rw [List.map_cons, List.nodup_cons] at hn
    rw [List.find?_cons]
    rcases List.mem_cons.mp hx with rfl | hx
    · rw [decide_eq_true rfl]
    · rw [decide_eq_false fun z => hn.1 (by rw [z]; exact List.mem_map_of_mem hx)]
      exact ih hn.2 x hx
theorem paired_mem {α β : Type} {R : α → β → Prop} : ∀ {xs : List α} {ys : List β}, Paired R xs ys → ∀ y ∈ ys, ∃ x, R x y
  | _, _, .nil, y, h => nomatch h
  | _, _, .cons a r, y, h => by
    rcases List.mem_cons.mp h with rfl | h
    · exact ⟨_, a⟩
    · exact paired_mem r y h
theorem paired_map {α β γ : Type} {R : α → γ → Prop} {f : β → γ} : ∀ {xs : List α} {ys : List β}, Paired (fun x y => R x (f y)) xs ys → Paired R xs (ys.map f)
  | _, _, .nil => .nil
  | _, _, .cons a r => .cons a (paired_map r)
theorem names_dp {K : PySem.W.Frag} {H : Hp} {v : V} {ws : List (List Nat)} (h : Dp K H v (.tuple (ws.map strD))) : ∃ t, v = .ref t ∧ SqT K H t (nmV ws) := by
  cases h with
  | tup h1 h2 =>
    rw [names_of h2] at h1
    exact ⟨_, rfl, h1⟩
theorem rr_at {K : PySem.W.Frag} {H : Hp} {v : V} {r : RRow} (h : Dp K H v r.d) : ∃ q v2 v4, v = .ref q ∧ SqT K H q [.str (SX.S r.ma), v2, .str (SX.S r.op), v4] ∧ Dp K H v2 r.tg.d := by
  cases h with
  | tup hS hA =>
    cases hA with
    | cons a1 hA =>
      cases hA with
      | cons a2 hA =>
        cases hA with
        | cons a3 hA =>
          cases hA with
          | cons a4 hA =>
            cases hA
            cases a1
            cases a3
            exact ⟨_, _, _, rfl, hS, a2⟩
theorem m_imm (m : MRow) : imm (mT m).r = true := by
  show (true && (immAll (m.pt.map strD) && true)) = true
  rw [immAll_map strD_imm]
  rfl
theorem key_depth (w : List Nat) (e : En) : (keyD (.tuple [strD w, e.d])).depth ≤ 8 := by
  cases e with
  | sp p w' => exact (by decide : 2 ≤ 8)
  | kept w' => exact (by decide : 2 ≤ 8)
theorem Gs.any {K : PySem.W.Frag} {H Y : Hp} {a gd ls lm lr of : Addr} {rs : List SRow} {ms : List MRow} {ru : List RRow} {roof : Nat} {kvs : List (Key × V)} (h : Gs K H Y a gd ls lm lr of rs ms ru roof kvs) : Gs K (fun _ => none) Y a gd ls lm lr of rs ms ru roof kvs :=
  { h with bt := (fun c o _ hc => nomatch hc), nH := rfl }
section
variable {P : Program} {w : World} {K : PySem.W.Frag} {mg : Str → Option Value} {base : Heap}
theorem ok_drawn (T : Dw mg) (c_law_take : C8.Cal P w K mg base 1 "_law_take" spTake []) (c_law_named : C8.Cal P w K mg base 2 "_law_named" spNamed []) (c_law_strewn : C8.Cal P w K mg base 2 "_law_strewn" (spStrewnT K) []) (c_law_one_of : C8.Cal P w K mg base 2 "_law_one_of" (spOneOf K) []) (c_law_sort_rows : C8.Cal P w K mg base 3 "_law_sort_rows" (spSortRows K) []) (c_law_rules_for : C8.Cal P w K mg base 3 "_law_rules_for" (spRules K) [])
    (D : Dd K mg "_law_drawn" s__law_drawn P__law_drawn) : C8.Cal P w K mg base 4 "_law_drawn" (spDrawn K) [] := by
  refine D.cal sc__law_drawn (fun vs H Q E h => ?_) (fun f cdv A outer s H vs Q E hr h => ?_)
  · obtain ⟨a, roof, m, wv, wb, wn, b, rfl, _⟩ := h
    rfl
  · obtain ⟨a, roof, m, wv, wb, wn, b, rfl, hwv, w0, w1, hroof, ha, hB, hm, q⟩ := h
    refine ⟨_, (C8.pss_cut (ps_set (i := 3) sc__law_drawn.nd rfl (Or.inr rfl) (C8.pe_c c_law_sort_rows hr (by decide) (by rfl) (pa_cons (pv 0) (pa_cons (pe_op op_add pe_int (C8.pe_c c_law_take hr (by decide) (by rfl) (pa_cons (pv 0) (pa_cons pe_int pa_nil)))) pa_nil))))
        (C8.pss_cut (ps_set (i := 4) sc__law_drawn.nd rfl (Or.inl rfl) (pe_disp (pps_cons pe_str (pv 1) (pps_cons pe_str (pv 3) (pps_cons pe_str (pe_lst pa_nil) (pps_cons pe_str (pe_lst pa_nil) (pps_cons pe_str (pe_callTy (call_dictP rfl) (by rfl) T.dict (by decide +kernel) (pa_cons (pe_lc (own := [("_law_row", 10)]) (by exact rfl) sc__law_drawn.nd (pi_list (pv 3)) (blkOk_by (own := [("_law_row", 10)]) (N := N__law_drawn) (sc := defScope s__law_drawn) (by decide +kernel)) (fun _ _ _ _ _ => (pg_name (i := 10) sc__law_drawn.nd rfl (Or.inl rfl))) (fun _ _ _ _ _ => pts_nil) (fun _ _ _ _ _ => (pe_tup (pa_cons (pe_ix (r := rIxT K) ix_tup (pv 10) pe_int (fun _ _ => rfl)) (pa_cons (pe_slice (r := rSlAny K) sl_any (pv 10) (po_some pe_int) po_none) pa_nil))))) pa_nil)) pps_nil))))) (by rfl) (by rfl) (fun z => by cases z) (by decide)))
        (C8.pss_cut (ps_set (i := 5) sc__law_drawn.nd rfl (Or.inl rfl) (pe_callTy (call_dictP rfl) (by rfl) T.dict (by decide +kernel) (pa_cons (pe_lc (own := [("_law_row", 10)]) (by exact rfl) sc__law_drawn.nd (pi_list (pv 3)) (blkOk_by (own := [("_law_row", 10)]) (N := N__law_drawn) (sc := defScope s__law_drawn) (by decide +kernel)) (fun _ _ _ _ _ => (pg_name (i := 10) sc__law_drawn.nd rfl (Or.inl rfl))) (fun _ _ _ _ _ => pts_nil) (fun _ _ _ _ _ => (pe_tup (pa_cons (pe_ix (r := rIxT K) ix_tup (pv 10) pe_int (fun _ _ => rfl)) (pa_cons (C8.pe_c c_law_strewn hr (by decide) (by rfl) (pa_cons (pv 0) (pa_cons (pe_op (r := rCatAny K) op_catAny (pe_ix (r := rIxT K) ix_tup (pv 10) pe_int (fun _ _ => rfl)) (pe_ix (r := rIxT K) ix_tup (pv 10) pe_int (fun _ _ => rfl))) pa_nil))) pa_nil))))) pa_nil)))
        (C8.pss_cut (ps_for PassesOwn.never rfl (pi_enum (by rfl) T.enumerate (pa_cons (C8.pe_c c_law_named hr (by decide) (by rfl) (pa_cons (pv 0) (pa_cons (pe_op op_add (pe_callB call_len_seq (by rfl) T.len PySem.boot_len (pa_cons (pv 3) pa_nil)) (C8.pe_c c_law_take hr (by decide) (by rfl) (pa_cons (pv 0) (pa_cons (pe_op op_sub pe_int (pe_callB call_len_seq (by rfl) T.len PySem.boot_len (pa_cons (pv 3) pa_nil))) pa_nil)))) pa_nil))) pa_nil)) (pg_tup rfl (pgs_cons (pg_name (i := 6) sc__law_drawn.nd rfl (Or.inl rfl)) (pgs_cons (pg_name (i := 7) sc__law_drawn.nd rfl (Or.inl rfl)) pgs_nil)))
          (pss_cons (ps_par rfl sc__law_drawn.nd (i := 8) (j := 9) rfl rfl (by decide) rfl rfl (pa_cons (pe_ix (r := rIxT K) ix_tup (C8.pe_c c_law_one_of hr (by decide) (by rfl) (pa_cons (pv 0) (pa_cons (pv 3) pa_nil))) pe_int (fun _ _ => rfl)) (pa_cons (pe_ix ix_list (pe_lst (pa_cons pe_int (pa_cons pe_int (pa_cons pe_int (pa_cons pe_int pa_nil))))) (C8.pe_c c_law_take hr (by decide) (by rfl) (pa_cons (pv 0) (pa_cons pe_int pa_nil))) (fun _ _ => rfl)) pa_nil)) (by rfl))
        (C8.pss_cut (ps_if (PW.pt (pw_and (pt_cmpR op_lt (pv 6) (pe_callB call_len_seq (by rfl) T.len PySem.boot_len (pa_cons (pv 3) pa_nil)) (nomark _)) (pw_and1 (pt_cmpR op_gt (C8.pe_c c_law_take hr (by decide) (by rfl) (pa_cons (pv 0) (pa_cons pe_int pa_nil))) pe_int (nomark _)))))
          (pss_one (ps_par rfl sc__law_drawn.nd (i := 8) (j := 9) rfl rfl (by decide) rfl rfl (pa_cons (pe_ix (r := rIxT K) ix_tup (pe_ix ix_list (pv 3) (pv 6) (fun _ _ => rfl)) pe_int (fun _ _ => rfl)) (pa_cons pe_int pa_nil)) (by rfl)))
          pss_nil)
        (C8.pss_cut (ps_set (i := 10) sc__law_drawn.nd rfl (Or.inl rfl) (pe_tup (pa_cons (pv 7) (pa_cons (pv 8) (pa_cons (pe_callTy call_tuple_of (by rfl) T.tuple (by decide +kernel) (pa_cons (pe_lc (own := [("_law_turn", 11)]) (by exact rfl) sc__law_drawn.nd (pi_range1 rfl T.range (pa_cons (pv 9) pa_nil)) (blkOk_by (own := [("_law_turn", 11)]) (N := N__law_drawn) (sc := defScope s__law_drawn) (by decide +kernel)) (fun _ _ _ _ _ => (pg_name (i := 11) sc__law_drawn.nd rfl (Or.inl rfl))) (fun _ _ _ _ _ => pts_nil) (fun _ _ _ _ _ => (pe_ix (r := rIxT K) ix_tup (C8.pe_c c_law_one_of hr (by decide) (by rfl) (pa_cons (pv 0) (pa_cons (pv 3) pa_nil))) pe_int (fun _ _ => rfl)))) pa_nil)) pa_nil)))))
        (C8.pss_cut (ps_dput (hu_of hr) (pv 4) pe_str (pe_op op_cat (pe_dget (hu_of hr) (pv 4) pe_str (fun _ _ => rfl)) (pe_lst (pa_cons (pv 10) pa_nil))) (by rfl))
        (pss_one (ps_dput (hu_of hr) (pv 4) pe_str (pe_op op_cat (pe_dget (hu_of hr) (pv 4) pe_str (fun _ _ => rfl)) (C8.pe_c c_law_rules_for hr (by decide) (by rfl) (pa_cons (pv 0) (pa_cons (pv 4) (pa_cons (pv 10) (pa_cons (pv 5) (pa_cons (pv 2) pa_nil))))))) (by rfl))))))))
        (C8.pss_cut (ps_dput (hu_of hr) (pv 4) pe_str (pe_callTy (call_dictP rfl) (by rfl) T.dict (by decide +kernel) (pa_cons (pe_lc (own := [("_law_row", 10)]) (by exact rfl) sc__law_drawn.nd (pi_list (pe_dget (hu_of hr) (pv 4) pe_str (fun _ _ => rfl))) (blkOk_by (own := [("_law_row", 10)]) (N := N__law_drawn) (sc := defScope s__law_drawn) (by decide +kernel)) (fun _ _ _ _ _ => (pg_name (i := 10) sc__law_drawn.nd rfl (Or.inl rfl))) (fun _ _ _ _ _ => pts_nil) (fun _ _ _ _ _ => (pe_tup (pa_cons (pe_ix (r := rIxT K) ix_tup (pv 10) pe_int (fun _ _ => rfl)) (pa_cons (pe_slice (r := rSlAny K) sl_any (pv 10) (po_some pe_int) po_none) pa_nil))))) pa_nil)) (by rfl))
        (pss_cons (ps_dput (hu_of hr) (pv 4) pe_str (pe_callTy (call_dictN (hu65 hr) rfl) (by rfl) T.dict (by decide +kernel) (pa_cons (pe_lc (own := [("_law_row", 10)]) (by exact rfl) sc__law_drawn.nd (pi_list (pe_dget (hu_of hr) (pv 4) pe_str (fun _ _ => rfl))) (blkOk_by (own := [("_law_row", 10)]) (N := N__law_drawn) (sc := defScope s__law_drawn) (by decide +kernel)) (fun _ _ _ _ _ => (pg_name (i := 10) sc__law_drawn.nd rfl (Or.inl rfl))) (fun _ _ _ _ _ => pts_nil) (fun _ _ _ _ _ => (pe_tup (pa_cons (pe_slice (r := rSlAny K) sl_any (pv 10) po_none (po_some pe_int)) (pa_cons (pe_slice (r := rSlAny K) sl_any (pv 10) (po_some pe_int) po_none) pa_nil))))) pa_nil)) (by rfl))
        (pss_one (ps_ret (pv 4))))))))), ?_⟩
    -- the sorts
    refine ⟨fun σ X => ∃ (ls : Addr) (sv b1 : List V) (rs : List SRow), σ = [some (.ref a), some (.int (roof : Nat)), some wv, some (.ref ls), none, none, none, none, none, none, none, none] ∧ But a H X ∧ H ls = none ∧ X ls = some (.lst sv) ∧ DpAll K X sv (rs.map SRow.d) ∧ SortsOk rs ∧ 1 ≤ rs.length ∧ rs.length ≤ 4 ∧ X a = some (.lst b1) ∧ BoxL (m + 301) b1, ?_, ?_⟩
    · refine ⟨_, rfl, _, rfl, a, 4, _, b, rfl, ha, hB, by omega, by decide, by decide, fun r0 b1 h0 h0' hB1 => ?_⟩
      obtain ⟨n0, rfl⟩ := Int.eq_ofNat_of_zero_le h0
      have bt0 : But a H (upd H a (.lst b1)) := But.upd (But.refl a H)
      refine ⟨_, _, rfl, rfl, a, 1 + n0, m + 1, b1, rfl, by omega, by omega, upd_same, hB1, by omega, fun X ls sv rs b2 bt nls hls hsv hrl hrs hb2 hB2 => ?_⟩
      exact ⟨ls, sv, b2, rs, rfl, bt0.trans bt, But.free bt0 upd_same nls, hls, hsv, hrs, by omega, by omega, hb2, hB2.mono (by omega)⟩
    rintro σ X0 ⟨ls, sv, b1, rs, rfl, bt0, nls, hls0, hsv0, hrs, rs1, rs4, hb0, hB0⟩
    have off : ∀ {x : Addr}, H x = none → x ≠ a := fun {x} h z => by
      rw [z, ha] at h
      cases h
    have ndr : (rs.map fun r => r.nm).Nodup := hrs.nd
    have ndk : ((rs.map sT).map fun t => kS t.k).Nodup := by
      rw [show ((rs.map sT).map fun t => kS t.k) = (rs.map fun r => r.nm).map kS by rw [List.map_map, List.map_map]; rfl]
      exact List.pairwise_map.mpr (ndr.imp fun h z => h (kS_inj z))
    -- the grammar
    refine ⟨fun σ X => ∃ (gd lm lr of : Addr) (kvs : List (Key × V)), σ = [some (.ref a), some (.int (roof : Nat)), some wv, some (.ref ls), some (.ref gd), none, none, none, none, none, none, none] ∧ Gs K H X a gd ls lm lr of rs [] [] roof kvs ∧ kvs.length ≤ 5 ∧ X a = some (.lst b1), ?_, ?_⟩
    · refine fun gd ngd => ?_
      have g0 := same_upd (o := .dK []) ngd
      refine ⟨_, rfl, _, rfl, by show 0 ≤ sizeLine; decide, fun lm nlm => ⟨by show 0 ≤ sizeLine; decide, fun lr nlr => ?_⟩⟩
      have g1 := same_upd (o := .lst []) nlm
      have g2 := same_upd (o := .lst []) nlr
      have g02 := (g0.trans g1).trans g2
      refine ⟨_, rfl, ls, rfl, ⟨_, SqL.of (g02 _ _ hls0)⟩, fun D nD => ?_⟩
      refine lc_of (ts := rs.map sT) (g02 _ _ hls0) (by rw [← sT_d]; exact dpAll_same g02 hsv0) (fun t ht => ?_) (by rw [List.length_map]; omega) nD fun U ps sU hD hp => ?_
      · obtain ⟨r, _, rfl⟩ := List.mem_map.mp ht
        exact up_imm r
      obtain ⟨kvs, k1, k2, k3⟩ := hp.kvs
      refine ⟨D, ps, kvs, rfl, SqL.of hD, k1, fun of nof => ?_⟩
      have g3 := same_upd (o := .dK (mergeK [] kvs)) nof
      have hgd : (upd U of (.dK (mergeK [] kvs))) gd = some (.dK []) := (g1.trans (g2.trans (sU.trans g3))) _ _ upd_same
      refine ⟨hgd, [(Sum.inr "cap", .int (roof : Nat)), (Sum.inr "sorts", .ref ls), (Sum.inr "makings", .ref lm), (Sum.inr "rules", .ref lr), (Sum.inr "of", .ref of)], rfl, by show 5 ≤ 15; decide, ?_⟩
      have sA : Same X0 (upd U of (.dK (mergeK [] kvs))) := g02.trans (sU.trans g3)
      have hlm : (upd U of (.dK (mergeK [] kvs))) lm = some (.lst []) := (g2.trans (sU.trans g3)) _ _ upd_same
      have hlr : (upd U of (.dK (mergeK [] kvs))) lr = some (.lst []) := (sU.trans g3) _ _ upd_same
      have ngH : H gd = none := But.free bt0 hb0 ngd
      have bA := bt0.trans (But.of (a := a) sA)
      have n2 : lm ≠ a := fun z => by
        have := sA _ _ hb0
        rw [← z, hlm] at this
        rw [z, (g0 _ _ hb0)] at nlm
        cases nlm
      have n3 : lr ≠ a := fun z => by
        rw [z, ((g0.trans g1) _ _ hb0)] at nlr
        cases nlr
      have n4 : of ≠ gd := fun z => by
        rw [z, (g1.trans (g2.trans sU)) _ _ upd_same] at nof
        cases nof
      have kk : KeepT (upd U of (.dK (mergeK [] kvs))) (upd (upd U of (.dK (mergeK [] kvs))) gd (.dK (mergeK [] [(Sum.inr "cap", .int (roof : Nat)), (Sum.inr "sorts", .ref ls), (Sum.inr "makings", .ref lm), (Sum.inr "rules", .ref lr), (Sum.inr "of", .ref of)]))) := KeepT.at_ hgd dK_no
      have nl : ∀ {d : Addr} {xs : List V}, (upd U of (.dK (mergeK [] kvs))) d = some (.lst xs) → d ≠ gd := fun {d xs} h' z => by
        rw [z, hgd] at h'
        cases h'
      refine ⟨gd, lm, lr, of, _, rfl, ⟨fun c o nc hc => ?_, upd_same, ngH, rfl, rfl, rfl, rfl, rfl, ⟨sv, ?_, dpAll_imm kk (dpAll_same sA hsv0) (immAll_map SRow.imm rs)⟩, ⟨[], ?_, .nil⟩, ⟨[], ?_, .nil⟩, ⟨mergeK [] kvs, ?_, (merge_keys kvs [] (by show (kvs.map (·.1)).Nodup; rw [k2]; exact ndk)).trans (by show kvs.map (·.1) = _; rw [k2, List.map_map]; rfl), fun r hr => ?_⟩, off nls, n2, n3, n4⟩, length_mergeK _ [], ?_⟩
      · rw [upd_ne (ne_of_none hc ngH)]
        exact bA c o nc hc
      · rw [upd_ne (nl (sA _ _ hls0))]
        exact sA _ _ hls0
      · rw [upd_ne (nl hlm)]
        exact hlm
      · rw [upd_ne (nl hlr)]
        exact hlr
      · rw [upd_ne n4]
        exact upd_same
      · obtain ⟨v, h1, h2⟩ := k3 (sT r) (List.mem_map_of_mem hr)
        exact ⟨v, merge_in kvs [] (by rw [k2]; exact ndk) _ h1, dp_imm kk (dp_same g3 h2) (up_imm r)⟩
      · rw [upd_ne (nl (sA _ _ hb0)).symm.symm]
        exact sA _ _ hb0
    rintro σ X1 ⟨gd, lm, lr, of, kvs, rfl, gs1, kl1, hb1⟩
    obtain ⟨sv1, hls1, hsv1⟩ := gs1.hls
    -- the phases
    refine ⟨fun σ X => ∃ (ph : Addr) (phs : List Nat → List (List Nat)) (b2 : List V), σ = [some (.ref a), some (.int (roof : Nat)), some wv, some (.ref ls), some (.ref gd), some (.ref ph), none, none, none, none, none, none] ∧ Gs K H X a gd ls lm lr of rs [] [] roof kvs ∧ Ph X a ph rs phs ∧ ph ≠ gd ∧ X a = some (.lst b2) ∧ BoxL (m + 320) b2, ?_, ?_⟩
    · refine ⟨_, rfl, ls, rfl, ⟨_, SqL.of hls1⟩, fun D nD => ?_⟩
      refine lc_list (K := K) (a := ls) (xs := sv1) (fun j U => But a X1 U ∧ ∃ (ps : List Addr) (xs : List (SRow × Addr × List (List Nat))) (b' : List V), U D = some (.lst (ps.map V.ref)) ∧ U a = some (.lst b') ∧ BoxL (m + 301 + 4 * j) b' ∧ Paired (fun p x => SqT K U p [.str (SX.S x.1.nm), .ref x.2.1] ∧ x.2.1 ≠ a ∧ x.2.1 ≠ D ∧ U x.2.1 = some (.lst (nmV x.2.2)) ∧ x.2.2.Perm (x.1.dn ++ x.1.up)) ps xs ∧ xs.map (·.1) = rs.take j) ⟨But.of (same_upd nD), [], [], b1, upd_same, ?_, hB0, .nil, rfl⟩ (fun j U _ h => SqL.of (h.1 _ _ gs1.n1 hls1)) ?_ ?_
      · exact same_upd nD _ _ hb1
      · rintro j x U hx ⟨bU, ps, xs, b', hD, hb', hB', hp, hxs⟩
        obtain ⟨dd, hdd, hxd⟩ := dpAll_at hsv1 hx
        rw [List.getElem?_map] at hdd
        obtain ⟨r, hr, rfl⟩ : ∃ r, rs[j]? = some r ∧ dd = r.d := by
          cases h : rs[j]? with
          | none => rw [h] at hdd; cases hdd
          | some e => rw [h] at hdd; exact ⟨e, rfl, (Option.some.inj hdd).symm⟩
        have hj : j < rs.length := (List.getElem?_eq_some_iff.mp hr).1
        have rok := hrs.ok r (List.mem_of_getElem? hr)
        have rd2 := rok.d2
        have ru2 := rok.u2
        have kU := KeepT.but hb1 bU
        have tk : rs.take (j + 1) = rs.take j ++ [r] := by rw [List.take_add_one, hr]; rfl
        have lp := paired_len hp
        have lx : xs.length = j := by
          have := congrArg List.length hxs
          rw [List.length_map, List.length_take] at this
          omega
        obtain ⟨q, v1, v2, rfl, hq, h1, h2⟩ := t3_at (t := sT r) (dp_imm kU hxd r.imm)
        obtain ⟨td, rfl, htd⟩ := names_dp h1
        obtain ⟨tu, rfl, htu⟩ := names_dp h2
        refine ⟨rfl, yesT ?_⟩
        refine ⟨_, rfl, q, _, 0, .str (SX.S r.nm), rfl, rfl, hq, atI_nat (j := 0) rfl, _, rfl, _, rfl, q, _, 1, .ref td, rfl, rfl, hq, atI_nat (j := 1) rfl, _, rfl, q, _, 2, .ref tu, rfl, rfl, hq, atI_nat (j := 2) rfl, td, tu, nmV r.dn, nmV r.up, rfl, rfl, htd, htu, ?_, fun U1 tc s1 htc => ?_⟩
        · rw [nmV_len, nmV_len]
          exact Nat.le_trans (show _ ≤ 4 by omega) (by decide)
        have lc : (nmV r.dn ++ nmV r.up).length ≤ 4 := by
          rw [List.length_append, nmV_len, nmV_len]
          omega
        refine ⟨a, tc, _, b', _, rfl, s1 _ _ hb', hB', by omega, htc, by omega, fun U2 l ys b2 bt2 nl hl hpm hb2 hB2 => ?_⟩
        obtain ⟨ws, rfl, hws⟩ := perm_map hpm (r.dn ++ r.up) (by unfold nmV; rw [List.map_append])
        refine ⟨by show 2 ≤ sizeLine; decide, fun p3 n3 => ?_⟩
        have s3 := same_upd (o := .tup [.str (SX.S r.nm), .ref l]) n3
        have nDa : D ≠ a := fun z => by
          rw [z, hb1] at nD
          cases nD
        have nlU : U l = none := s1.free nl
        have nla : l ≠ a := fun z => by
          rw [z, hb'] at nlU
          cases nlU
        have nlD : l ≠ D := fun z => by
          rw [z, hD] at nlU
          cases nlU
        have b13 : But a U (upd U2 p3 (.tup [.str (SX.S r.nm), .ref l])) := ((But.of s1).trans bt2).trans (But.of s3)
        have hD3 := b13 _ _ nDa hD
        have hl3 := s3 _ _ hl
        have hb3 := s3 _ _ hb2
        have ht3 : SqT K (upd U2 p3 (.tup [.str (SX.S r.nm), .ref l])) p3 [.str (SX.S r.nm), .ref l] := SqT.of upd_same
        have k3 := KeepT.but hb' b13
        obtain ⟨U3, eU3⟩ : ∃ U3, U3 = upd U2 p3 (.tup [.str (SX.S r.nm), .ref l]) := ⟨_, rfl⟩
        rw [← eU3] at b13 hD3 hl3 hb3 ht3 k3 ⊢
        have kk : KeepT U3 (upd U3 D (.lst (ps.map V.ref ++ [.ref p3]))) := KeepT.at_ hD3 lst_no
        refine ⟨_, hD3, small1000 (by rw [List.length_map]; omega), fun c o nc hc => ?_, ps ++ [p3], xs ++ [(r, l, ws)], b2, ?_, ?_, hB2.mono (by omega), paired_snoc (paired_mono (fun p x h => ?_) hp) ⟨kk.seqT ht3, nla, nlD, ?_, hws⟩, ?_⟩
        · rw [upd_ne (ne_of_none hc nD)]
          exact (bU.trans b13) c o nc hc
        · rw [List.map_append]
          exact upd_same
        · rw [upd_ne nDa.symm]
          exact hb3
        · obtain ⟨q1, q2, q3, q4, q5⟩ := h
          exact ⟨(k3.trans kk).seqT q1, q2, q3, by rw [upd_ne q3]; exact b13 _ _ q2 q4, q5⟩
        · rw [upd_ne nlD]
          exact hl3
        · rw [List.map_append, hxs, tk]
          rfl
      · rintro U ⟨bU, ps, xs, b', hD, hb', hB', hp, hxs⟩
        have lsv := dpAll_len hsv1
        rw [List.length_map] at lsv
        rw [lsv, List.take_length] at hxs
        have ekn : (xs.map fun x => ((kS x.1.nm, V.ref x.2.1) : Key × V)).map (·.1) = (rs.map fun r => r.nm).map kS := by
          rw [← hxs, List.map_map, List.map_map, List.map_map]
          rfl
        have nxn : (xs.map fun x => x.1.nm).Nodup := by
          rw [show (xs.map fun x => x.1.nm) = (xs.map (·.1)).map (fun r => r.nm) by rw [List.map_map]; rfl, hxs]
          exact ndr
        refine ⟨D, ps, xs.map fun x => (kS x.1.nm, V.ref x.2.1), rfl, SqL.of hD, paired_map (paired_mono (fun p x h => h.1) hp), fun ph nph => ?_⟩
        have g3 := same_upd (o := .dK (mergeK [] (xs.map fun x => (kS x.1.nm, V.ref x.2.1)))) nph
        have bA := bU.trans (But.of (a := a) g3)
        obtain ⟨phs, hphs⟩ : ∃ phs : List Nat → List (List Nat), ∀ x ∈ xs, phs x.1.nm = x.2.2 := ⟨fun k => ((xs.find? fun y => decide (y.1.nm = k)).map fun x => x.2.2).getD [], fun x hx => by
          show ((xs.find? fun y => decide (y.1.nm = x.1.nm)).map fun x => x.2.2).getD [] = _
          rw [find_row nxn x hx]
          rfl⟩
        refine ⟨ph, phs, b', rfl, gs1.go hb1 bA, ⟨_, upd_same, fun r hr => ?_⟩, ?_, g3 _ _ hb', hB'.mono (by omega)⟩
        · rw [← hxs] at hr
          obtain ⟨x, hx, rfl⟩ := List.mem_map.mp hr
          obtain ⟨p, q1, q2, q3, q4, q5⟩ := paired_mem hp x hx
          refine ⟨x.2.1, ?_, q2, ?_, ?_⟩
          · exact merge_in _ [] (by rw [ekn]; exact List.pairwise_map.mpr (ndr.imp fun h z => h (kS_inj z))) (kS x.1.nm, V.ref x.2.1) (List.mem_map_of_mem hx)
          · rw [hphs x hx]
            exact g3 _ _ q4
          · rw [hphs x hx]
            exact q5
        · exact fun z => by
            have := (gs1.go hb1 bU).hgd
            rw [← z, nph] at this
            cases this
    rintro σ X2 ⟨ph, phs, b2, rfl, gs2, ph2, npg, hb2, hB2⟩
    -- the makings
    refine ⟨fun σ Y => ∃ (y6 y7 y8 y9 y10 y11 : Option V) (lm lr : Addr) (ms : List MRow) (ru : List RRow) (kvs : List (Key × V)) (b' : List V), σ = [some (.ref a), some (.int (roof : Nat)), some wv, some (.ref ls), some (.ref gd), some (.ref ph), y6, y7, y8, y9, y10, y11] ∧ Gs K H Y a gd ls lm lr of rs ms ru roof kvs ∧ kvs.length ≤ 30 ∧ (ms.map MRow.nm).Nodup ∧ (∀ m ∈ ms, MOk rs m) ∧ ms.length ≤ 8 ∧ rs.length ≤ ms.length ∧ RuAll rs roof ms ru ∧ ru.length ≤ 240 ∧ Y a = some (.lst b') ∧ BoxL (m + 7000) b', ?_, ?_⟩
    · obtain ⟨sv2, hls2, hsv2⟩ := gs2.hls
      have lsv := dpAll_len hsv2
      rw [List.length_map] at lsv
      refine ⟨_, rfl, _, rfl, ls, sv2, rfl, .inl (SqL.of hls2), _, rfl, _, rfl, ls, sv2, rfl, .inl (SqL.of hls2), _, _, rfl, rfl, a, _, _, b2, rfl, hb2, hB2, by omega, by omega, by omega, fun r3 b3 h3 h3' hB3 => ?_⟩
      obtain ⟨n3, rfl⟩ := Int.eq_ofNat_of_zero_le h3
      have bt3 : But a X2 (upd X2 a (.lst b3)) := But.upd (But.refl a X2)
      have hb3 : (upd X2 a (.lst b3)) a = some (.lst b3) := upd_same
      obtain ⟨X3, e3⟩ : ∃ X3, X3 = upd X2 a (.lst b3) := ⟨_, rfl⟩
      rw [← e3] at bt3 hb3 ⊢
      refine ⟨_, _, rfl, rfl, a, sv2.length + n3, _, b3, rfl, by omega, hb3, hB3, by omega, fun X4 ln ws b4 bt4 nln hln hwl hwn hws hb4 hB4 => ?_⟩
      have bX4 := bt3.trans bt4
      have gs4 := gs2.go hb2 bX4
      have ph4 := ph2.go hb2 bX4
      have nln2 : X2 ln = none := But.free bt3 hb3 nln
      have nla : ln ≠ a := fun z => by
        rw [z, hb2] at nln2
        cases nln2
      have nlg : ln ≠ gd := fun z => by
        rw [z, gs2.hgd] at nln2
        cases nln2
      have lw8 : ws.length ≤ 8 := by omega
      refine ⟨ln, nmV ws, rfl, SqL.of hln, ?_⟩
      refine for_it walk_enum (fun j σ Y => ∃ (y6 y7 y8 y9 y10 y11 : Option V) (lm lr : Addr) (ms : List MRow) (ru : List RRow) (kvs : List (Key × V)) (b' : List V), σ = [some (.ref a), some (.int (roof : Nat)), some wv, some (.ref ls), some (.ref gd), some (.ref ph), y6, y7, y8, y9, y10, y11] ∧ Gs K H Y a gd ls lm lr of rs ms ru roof kvs ∧ kvs.length ≤ 5 + 2 * j ∧ Ph Y a ph rs phs ∧ ms.map MRow.nm = ws.take j ∧ (∀ m ∈ ms, MOk rs m) ∧ RuAll rs roof ms ru ∧ ru.length ≤ 30 * j ∧ Y a = some (.lst b') ∧ BoxL (m + 401 + 705 * j) b' ∧ Y ln = some (.lst (nmV ws)))
        ⟨none, none, none, none, none, none, lm, lr, [], [], kvs, b4, rfl, gs4, by omega, ph4, rfl, (fun m h => nomatch h), .nil, Nat.le_refl _, hb4, hB4.mono (by omega), hln⟩ (fun i σ Y _ ⟨_, _, _, _, _, _, _, _, _, _, _, _, _, _, _, _, _, _, _, _, _, _, h⟩ => SqL.of h) ?_ ?_
      · rintro j v σ Y0 Y hj ⟨y6, y7, y8, y9, y10, y11, lm, lr, ms, ru, kvs, b5, rfl, gs0, kl0, ph0, hms, hmo, hru, hrul, hb0, hB5, hlnY0⟩ ⟨TT, xx, yy, rfl, nT, rfl, ex, ey⟩
        cases ex
        rw [nmV_len] at hj
        have sT := same_upd (o := .tup [.int ((j : Nat) : Int), yy]) nT
        obtain ⟨nm, hnm, rfl⟩ : ∃ nm, ws[j]? = some nm ∧ yy = V.str (SX.S nm) := by
          replace ey : (nmV ws)[j]? = some yy := ey
          unfold nmV at ey
          rw [List.getElem?_map] at ey
          cases e : ws[j]? with
          | none => rw [e] at ey; cases ey
          | some u => rw [e] at ey; exact ⟨u, rfl, (Option.some.inj ey).symm⟩
        have gsY := gs0.go hb0 (But.of sT)
        have phY := ph0.go hb0 (But.of sT)
        have hbY := sT _ _ hb0
        have hlnY := sT _ _ hlnY0
        have hTT : SqT K (upd Y0 TT (.tup [.int ((j : Nat) : Int), .str (SX.S nm)])) TT [.int ((j : Nat) : Int), .str (SX.S nm)] := SqT.of upd_same
        obtain ⟨Y, eY⟩ : ∃ Y, Y = upd Y0 TT (.tup [.int ((j : Nat) : Int), .str (SX.S nm)]) := ⟨_, rfl⟩
        rw [← eY] at gsY phY hbY hlnY hTT ⊢
        clear sT ph0 gs0 hlnY0 hb0
        refine ⟨TT, _, rfl, hTT, rfl, _, _, rfl, _, _, rfl, rfl, ?_⟩
        obtain ⟨sv, hls, hsv⟩ := gsY.hls
        have lsv := dpAll_len hsv
        rw [List.length_map] at lsv
        -- one of the sorts, by its name
        have kindOf : ∀ {Z : Hp} {i : Nat} {v : V}, But a Y Z → sv[i]? = some v → ∃ r q v1 v2, r ∈ rs ∧ v = .ref q ∧ SqT K Z q [.str (SX.S r.nm), v1, v2] := fun {Z i v} bt hv => by
          obtain ⟨dd, hdd, hxd⟩ := dpAll_at hsv hv
          rw [List.getElem?_map] at hdd
          cases h : rs[i]? with
          | none => rw [h] at hdd; cases hdd
          | some r =>
            rw [h] at hdd
            cases hdd
            obtain ⟨q, v1, v2, e, hq, _, _⟩ := t3_at (t := sT r) (dp_imm (KeepT.but hbY bt) hxd r.imm)
            exact ⟨r, q, v1, v2, List.mem_of_getElem? h, e, hq⟩
        refine ⟨_, rfl, _, rfl, a, ls, _, b5, sv, rfl, hbY, hB5, by omega, SqL.of hls, gsY.n1, by omega, by omega, fun i1 v1 b6 hv1 hB6 => ?_⟩
        have bt6 : But a Y (upd Y a (.lst b6)) := But.upd (But.refl a Y)
        have hb6 : (upd Y a (.lst b6)) a = some (.lst b6) := upd_same
        obtain ⟨Y6, e6⟩ : ∃ Y6, Y6 = upd Y a (.lst b6) := ⟨_, rfl⟩
        rw [← e6] at bt6 hb6 ⊢
        obtain ⟨r, q, u1, u2, hr, rfl, hq⟩ := kindOf bt6 hv1
        refine ⟨q, _, 0, .str (SX.S r.nm), rfl, rfl, hq, atI_nat (j := 0) rfl, by show 4 ≤ sizeLine; decide, fun l0 n0 => ?_⟩
        have s7 := same_upd (o := .lst [.int 0, .int 1, .int 2, .int 2]) n0
        have hl0 : (upd Y6 l0 (.lst [.int 0, .int 1, .int 2, .int 2])) l0 = some (.lst [.int 0, .int 1, .int 2, .int 2]) := upd_same
        have n0a : l0 ≠ a := fun z => by
          rw [z, hb6] at n0
          cases n0
        refine ⟨_, rfl, a, 4, _, b6, rfl, s7 _ _ hb6, hB6, by omega, by decide, by decide, fun t0 b7 h0 h0' hB7 => ?_⟩
        obtain ⟨tn, rfl⟩ := Int.eq_ofNat_of_zero_le h0
        have bt7 : But a Y (upd (upd Y6 l0 (.lst [.int 0, .int 1, .int 2, .int 2])) a (.lst b7)) := bt6.trans ((But.of s7).trans (But.upd (But.refl a _)))
        have hb7 : (upd (upd Y6 l0 (.lst [.int 0, .int 1, .int 2, .int 2])) a (.lst b7)) a = some (.lst b7) := upd_same
        have hl7 : (upd (upd Y6 l0 (.lst [.int 0, .int 1, .int 2, .int 2])) a (.lst b7)) l0 = some (.lst [.int 0, .int 1, .int 2, .int 2]) := by
          rw [upd_ne n0a]
          exact hl0
        obtain ⟨Y7, e7⟩ : ∃ Y7, Y7 = upd (upd Y6 l0 (.lst [.int 0, .int 1, .int 2, .int 2])) a (.lst b7) := ⟨_, rfl⟩
        rw [← e7] at bt7 hb7 hl7 ⊢
        obtain ⟨sz, hat, hsz⟩ : ∃ sz : Nat, atI [V.int 0, V.int 1, V.int 2, V.int 2] ((tn : Nat) : Int) = some (.int (sz : Nat)) ∧ sz ≤ 2 := by
          have : tn < 4 := by omega
          rcases tn with _ | _ | _ | _ | tn
          · exact ⟨0, atI_nat (j := 0) rfl, by decide⟩
          · exact ⟨1, atI_nat (j := 1) rfl, by decide⟩
          · exact ⟨2, atI_nat (j := 2) rfl, by decide⟩
          · exact ⟨2, atI_nat (j := 3) rfl, by decide⟩
          · omega
        refine ⟨l0, _, _, _, rfl, rfl, SqL.of hl7, hat, _, _, rfl, ?_⟩
        -- or the sort that needs one
        refine ⟨fun σ Z => ∃ (k : List Nat) (sz : Nat) (b8 : List V), σ = [some (.ref a), some (.int (roof : Nat)), some wv, some (.ref ls), some (.ref gd), some (.ref ph), some (.int ((j : Nat) : Int)), some (.str (SX.S nm)), some (.str (SX.S k)), some (.int (sz : Nat)), y10, y11] ∧ (∃ r ∈ rs, r.nm = k) ∧ sz ≤ 2 ∧ But a Y Z ∧ Z a = some (.lst b8) ∧ BoxL (m + 401 + 705 * j + 3) b8, ?_, ?_⟩
        · refine ⟨_, rfl, _, rfl, ls, sv, rfl, .inl (SqL.of (bt7 _ _ gsY.n1 hls)), _, _, rfl, rfl, _, rfl, ?_⟩
          by_cases hjl : ((j : Nat) : Int) < ((sv.length : Nat) : Int)
          · refine ifT (decide_eq_true hjl) ?_
            refine ⟨_, rfl, a, 24, _, b7, rfl, hb7, hB7, by omega, by decide, by decide, fun t1 b8 h1 h1' hB8 => ?_⟩
            have bt8 : But a Y (upd Y7 a (.lst b8)) := bt7.trans (But.upd (But.refl a _))
            refine ⟨_, _, rfl, rfl, _, rfl, ?_⟩
            by_cases ht1 : 0 < t1
            · refine ifT (decide_eq_true ht1) ?_
              have hjn : j < sv.length := by omega
              have hv2 : sv[j]? = some sv[j] := List.getElem?_eq_getElem hjn
              obtain ⟨r', q', w1', w2', hr', ev, hq'⟩ := kindOf bt8 hv2
              refine ⟨_, rfl, _, rfl, ls, sv, _, sv[j], rfl, rfl, SqL.of (bt8 _ _ gsY.n1 hls), atI_nat (j := j) hv2, ?_⟩
              rw [ev]
              exact ⟨q', _, 0, .str (SX.S r'.nm), rfl, rfl, hq', atI_nat (j := 0) rfl, _, _, rfl, r'.nm, 0, b8, rfl, ⟨r', hr', rfl⟩, by decide, bt8, upd_same, hB8⟩
            · exact ifF (decide_eq_false ht1) ⟨r.nm, sz, b8, rfl, ⟨r, hr, rfl⟩, hsz, bt8, upd_same, hB8⟩
          · exact ifF (decide_eq_false hjl) ⟨r.nm, sz, b7, rfl, ⟨r, hr, rfl⟩, hsz, bt7, hb7, hB7.mono (by omega)⟩
        clear hat hsz hl7 hb7 bt7 e7 Y7 hB7 hq bt6 hb6 e6 hB6
        rintro σ Y8 ⟨k, sz, b8, rfl, hk, hsz, bt8, hb8, hB8⟩
        -- the row
        refine ⟨fun σ Z => ∃ (mr : MRow) (rowv : V) (b9 : List V) (y11 : Option V), σ = [some (.ref a), some (.int (roof : Nat)), some wv, some (.ref ls), some (.ref gd), some (.ref ph), some (.int ((j : Nat) : Int)), some (.str (SX.S nm)), some (.str (SX.S k)), some (.int (sz : Nat)), some rowv, y11] ∧ mr.nm = nm ∧ MOk rs mr ∧ Dp K Z rowv mr.d ∧ But a Y Z ∧ Z a = some (.lst b9) ∧ BoxL (m + 401 + 705 * j + 5) b9, ?_, ?_⟩
        · refine ⟨_, rfl, _, rfl, _, rfl, ((sz : Nat) : Int), rfl, by omega, by omega, fun D nD => ?_⟩
          have nDa : D ≠ a := fun z => by
            rw [z, hb8] at nD
            cases nD
          refine lc_range (lo := 0) (n := Int.toNat ((sz : Nat) : Int)) (fun i U => But a Y8 U ∧ ∃ (pt : List (List Nat)) (b9 : List V), U D = some (.lst (nmV pt)) ∧ pt.length = i ∧ (∀ k ∈ pt, ∃ r ∈ rs, r.nm = k) ∧ U a = some (.lst b9) ∧ BoxL (m + 401 + 705 * j + 3 + i) b9) ⟨But.of (same_upd nD), [], b8, upd_same, rfl, (fun k h => nomatch h), same_upd nD _ _ hb8, hB8⟩ ?_ ?_
          · rintro i U hi ⟨bU, pt, b9, hD, hpl, hpt, hb9, hB9⟩
            have hi2 : i < 2 := by
              rw [Int.toNat_natCast] at hi
              omega
            have btU := bt8.trans bU
            refine ⟨rfl, yesT ?_⟩
            refine ⟨_, rfl, _, rfl, a, ls, _, b9, sv, rfl, hb9, hB9, by omega, SqL.of (btU _ _ gsY.n1 hls), gsY.n1, by omega, by omega, fun i2 v2 b10 hv2 hB10 => ?_⟩
            have btV : But a Y (upd U a (.lst b10)) := btU.trans (But.upd (But.refl a U))
            obtain ⟨r2, q2, w1', w2', hr2, rfl, hq2⟩ := kindOf btV hv2
            refine ⟨q2, _, 0, .str (SX.S r2.nm), rfl, rfl, hq2, atI_nat (j := 0) rfl, nmV pt, by rw [upd_ne nDa]; exact hD, small1000 (by rw [nmV_len]; omega), fun c o nc hc => ?_, pt ++ [r2.nm], b10, ?_, by rw [List.length_append]; show pt.length + 1 = i + 1; omega, fun k hk => ?_, ?_, hB10.mono (by omega)⟩
            · rw [upd_ne (ne_of_none hc nD), upd_ne nc]
              exact bU c o nc hc
            · unfold nmV
              rw [List.map_append]
              exact upd_same
            · rcases List.mem_append.mp hk with h | h
              · exact hpt k h
              · rw [List.mem_singleton.mp h]
                exact ⟨r2, hr2, rfl⟩
            · rw [upd_ne nDa.symm]
              exact upd_same
          · rintro U ⟨bU, pt, b9, hD, hpl, hpt, hb9, hB9⟩
            rw [Int.toNat_natCast] at hpl hB9
            refine ⟨D, nmV pt, rfl, .inl ⟨SqL.of hD, fun l1 n1 => ?_⟩⟩
            have s1 := same_upd (o := .tup (nmV pt)) n1
            refine ⟨by show 3 ≤ sizeLine; decide, fun l2 n2 => ?_⟩
            have s2 := same_upd (o := .tup [.str (SX.S nm), .str (SX.S k), .ref l1]) n2
            refine ⟨⟨nm, k, pt⟩, .ref l2, b9, _, rfl, rfl, ⟨hws nm (List.mem_of_getElem? hnm), fun k' hk' => ?_, by show pt.length ≤ 2; omega⟩, ?_, (bt8.trans bU).trans (But.of (s1.trans s2)), (s1.trans s2) _ _ hb9, hB9.mono (by omega)⟩
            · rcases List.mem_cons.mp hk' with rfl | h
              · exact hk
              · exact hpt k' h
            · exact .tup (SqT.of upd_same) (.cons (.str _) (.cons (.str _) (.cons (dp_same s2 (.tup (SqT.of upd_same) (nm_dp pt))) .nil)))
        clear hb8 hB8 bt8
        rintro σ Y9 ⟨mr, rowv, b9, z11, rfl, hmn, hmok, hrow, bt9, hb9, hB9⟩
        have gs9 := gsY.go hbY bt9
        have ph9 := phY.go hbY bt9
        obtain ⟨mv, hlm, hmv⟩ := gs9.hlm
        have lmv := dpAll_len hmv
        rw [List.length_map] at lmv
        have lms : ms.length = j := by
          have := congrArg List.length hms
          rw [List.length_map, List.length_take] at this
          omega
        -- one making more
        refine ⟨fun σ Z => ∃ (lm' : Addr) (kvs' : List (Key × V)) (b9 : List V), σ = [some (.ref a), some (.int (roof : Nat)), some wv, some (.ref ls), some (.ref gd), some (.ref ph), some (.int ((j : Nat) : Int)), some (.str (SX.S nm)), some (.str (SX.S k)), some (.int (sz : Nat)), some rowv, z11] ∧ Gs K H Z a gd ls lm' lr of rs (ms ++ [mr]) ru roof kvs' ∧ kvs'.length ≤ 5 + 2 * j + 1 ∧ Ph Z a ph rs phs ∧ Dp K Z rowv mr.d ∧ Z ln = some (.lst (nmV ws)) ∧ Z a = some (.lst b9) ∧ BoxL (m + 401 + 705 * j + 5) b9, ?_, ?_⟩
        · refine ⟨_, rfl, gd, .ref lm, rfl, by have h := DGet.k (k := Sum.inr "makings") gs9.hgd; rw [gs9.mak] at h; exact h, _, rfl, by show 1 ≤ sizeLine; decide, fun l1 n1 => ?_⟩
          have s1 := same_upd (o := .lst [rowv]) n1
          refine ⟨lm, l1, mv, [rowv], rfl, rfl, s1 _ _ hlm, upd_same, Nat.le_trans (show _ ≤ 100 from by show mv.length + 1 ≤ 100; omega) (by decide), fun l2 n2 => ?_⟩
          have s2 := same_upd (o := .lst (mv ++ [rowv])) n2
          have s12 := s1.trans s2
          have gsA := gs9.go hb9 (But.of s12)
          have phA := ph9.go hb9 (But.of s12)
          have n2a : l2 ≠ a := fun z => by
            rw [z, s1 _ _ hb9] at n2
            cases n2
          have hrowA := dp_same s12 hrow
          have hl2 : (upd (upd Y9 l1 (.lst [rowv])) l2 (.lst (mv ++ [rowv]))) l2 = some (.lst (mv ++ [rowv])) := upd_same
          have hdA := dpAll_appI (dpAll_same s12 hmv) (.cons hrowA .nil)
          have hlnA := s12 _ _ (bt9 _ _ nla hlnY)
          have hbA := s12 _ _ hb9
          obtain ⟨YA, eA⟩ : ∃ YA, YA = upd (upd Y9 l1 (.lst [rowv])) l2 (.lst (mv ++ [rowv])) := ⟨_, rfl⟩
          rw [← eA] at gsA phA hrowA hl2 hdA hlnA hbA ⊢
          refine ⟨_, rfl, gd, _, rfl, DPut.k (k := Sum.inr "makings") gsA.hgd (small1000 (by omega)), l2, _, b9, rfl, gsA.set (kvs' := putK kvs (Sum.inr "makings") (.ref l2)) (ms' := ms ++ [mr]) (ru' := ru) ⟨mv ++ [rowv], hl2, by rw [List.map_append]; exact hdA⟩ n2a gsA.hlr gsA.n3 ?_ ?_ ?_ ?_ ?_, ?_, phA.set gsA.hgd npg, dp_imm (KeepT.at_ gsA.hgd dK_no) hrowA mr.imm, ?_, ?_, hB9⟩
          · rw [valV_put, if_neg (by decide +kernel)]; exact gsA.cap
          · rw [valV_put, if_neg (by decide +kernel)]; exact gsA.so
          · rw [valV_put, if_pos rfl]
          · rw [valV_put, if_neg (by decide +kernel)]; exact gsA.rl
          · rw [valV_put, if_neg (by decide +kernel)]; exact gsA.ofv
          · have := length_putK kvs (Sum.inr "makings") (.ref l2)
            omega
          · rw [upd_ne nlg]; exact hlnA
          · rw [upd_ne (fun z => by rw [z, gsA.hgd] at hbA; cases hbA)]; exact hbA
        clear hrow ph9 hlm hmv lmv gs9 hb9 hB9
        rintro σ Z ⟨lm', kvs', b9, rfl, gsZ, klZ, phZ, hrow, hlnZ, hbZ, hBZ⟩
        obtain ⟨rv, hlrZ, hrvZ⟩ := gsZ.hlr
        have lrv := dpAll_len hrvZ
        rw [List.length_map] at lrv
        obtain ⟨ofk, of1, _, of2⟩ := gsZ.hof
        have cxt : Cxt K Z a gd ph rowv wv rs mr roof wb wn phs := ⟨⟨kvs', of, ofk, gsZ.hgd, gsZ.cap, gsZ.ofv, of1, of2⟩, phZ, hrow, dp_imm (KeepT.but ha gsZ.bt) hwv rfl, w0, w1, hrs, hmok.so, hmok.p2, hroof⟩
        refine ⟨_, rfl, gd, .ref lr, rfl, by have h := DGet.k (k := Sum.inr "rules") gsZ.hgd; rw [gsZ.rl] at h; exact h, ?_⟩
        refine ⟨_, rfl, _, rfl, _, rfl, _, rfl, _, rfl, a, gd, ph, rowv, wv, rs, mr, roof, wb, wn, phs, _, b9, rfl, cxt, hbZ, hBZ, by omega, fun V lv vs' ru' ks b10 btV nlv hlv hru' hok hb10 hB10 => ?_⟩
        have gsV := gsZ.go hbZ btV
        have phV := phZ.go hbZ btV
        have hlrV := btV _ _ gsZ.n3 hlrZ
        have lru := hok.le
        have lvs := dpAll_len hru'
        rw [List.length_map] at lvs
        refine ⟨lr, lv, rv, vs', rfl, rfl, hlrV, hlv, Nat.le_trans (show _ ≤ 1000 by omega) (by decide), fun l3 n3 => ?_⟩
        have s3 := same_upd (o := .lst (rv ++ vs')) n3
        have gsA := gsV.go hb10 (But.of s3)
        have phA := phV.go hb10 (But.of s3)
        have n3a : l3 ≠ a := fun z => by
          rw [z, hb10] at n3
          cases n3
        have hdA := dpAll_appI (dpAll_imm ((KeepT.but hbZ btV).trans (KeepT.of s3)) hrvZ (immAll_map RRow.imm ru)) (dpAll_same s3 hru')
        have hl3 : (upd V l3 (.lst (rv ++ vs'))) l3 = some (.lst (rv ++ vs')) := upd_same
        have hlnA := s3 _ _ (btV _ _ nla hlnZ)
        have hbA := s3 _ _ hb10
        obtain ⟨YA, eA⟩ : ∃ YA, YA = upd V l3 (.lst (rv ++ vs')) := ⟨_, rfl⟩
        rw [← eA] at gsA phA hdA hl3 hlnA hbA ⊢
        refine ⟨_, rfl, gd, _, rfl, DPut.k (k := Sum.inr "rules") gsA.hgd (small1000 (by omega)), _, _, _, _, _, _, lm', l3, ms ++ [mr], ru ++ ru', _, b10, rfl, gsA.set (kvs' := putK kvs' (Sum.inr "rules") (.ref l3)) (ms' := ms ++ [mr]) (ru' := ru ++ ru') gsA.hlm gsA.n2 ⟨rv ++ vs', hl3, by rw [List.map_append]; exact hdA⟩ n3a ?_ ?_ ?_ ?_ ?_, ?_, phA.set gsA.hgd npg, ?_, fun m' hm' => ?_, .snoc hru hok, ?_, ?_, hB10.mono (by omega), ?_⟩
        · rw [valV_put, if_neg (by decide +kernel)]; exact gsA.cap
        · rw [valV_put, if_neg (by decide +kernel)]; exact gsA.so
        · rw [valV_put, if_neg (by decide +kernel)]; exact gsA.mak
        · rw [valV_put, if_pos rfl]
        · rw [valV_put, if_neg (by decide +kernel)]; exact gsA.ofv
        · have := length_putK kvs' (Sum.inr "rules") (.ref l3)
          omega
        · rw [List.map_append, hms, List.take_add_one, hnm]
          show _ ++ [mr.nm] = _ ++ [nm]
          rw [hmn]
        · rcases List.mem_append.mp hm' with h | h
          · exact hmo m' h
          · rw [List.mem_singleton.mp h]
            exact hmok
        · rw [List.length_append]
          omega
        · rw [upd_ne (fun z => by rw [z, gsA.hgd] at hbA; cases hbA)]; exact hbA
        · rw [upd_ne nlg]; exact hlnA
      · rintro σ Y ⟨y6, y7, y8, y9, y10, y11, lm, lr, ms, ru, kvs, b5, rfl, gs0, kl0, ph0, hms, hmo, hru, hrul, hb0, hB5, hlnY0⟩
        rw [nmV_len] at hms kl0 hrul hB5
        rw [List.take_length] at hms
        have lms := congrArg List.length hms
        rw [List.length_map] at lms
        exact ⟨_, _, _, _, _, _, lm, lr, ms, ru, kvs, b5, rfl, gs0, by omega, by rw [hms]; exact hwn, hmo, by omega, by omega, hru, by omega, hb0, hB5.mono (by omega)⟩
    rintro σ X5 ⟨y6, y7, y8, y9, y10, y11, lm5, lr5, ms, ru, kvs5, b5, rfl, gs5, kl5, hmn, hmo, hm8, hm1, hru, hrul, hb5, hB5⟩
    have ndm : ((ms.map mT).map fun t => kS t.k).Nodup := by
      rw [show ((ms.map mT).map fun t => kS t.k) = (ms.map MRow.nm).map kS by rw [List.map_map, List.map_map]; rfl]
      exact List.pairwise_map.mpr (hmn.imp fun h z => h (kS_inj z))
    -- by their names
    refine ⟨fun σ Y => ∃ (kvs : List (Key × V)) (by_ : Addr) (byk : List (Key × V)), σ = [some (.ref a), some (.int (roof : Nat)), some wv, some (.ref ls), some (.ref gd), some (.ref ph), y6, y7, y8, y9, y10, y11] ∧ Gs K H Y a gd ls lm5 lr5 of rs ms ru roof kvs ∧ kvs.length ≤ 31 ∧ valV kvs (Sum.inr "by") = some (.ref by_) ∧ by_ ≠ gd ∧ Y by_ = some (.dK byk) ∧ byk.map (·.1) = ms.map (fun m => kS m.nm) ∧ (∀ m ∈ ms, ∃ v, valV byk (kS m.nm) = some v ∧ Dp K Y v (.tuple [strD m.so, .tuple (m.pt.map strD)])) ∧ Y a = some (.lst b5), ?_, ?_⟩
    · obtain ⟨mv, hlm, hmv⟩ := gs5.hlm
      refine ⟨_, rfl, gd, .ref lm5, rfl, by have h := DGet.k (k := Sum.inr "makings") gs5.hgd; rw [gs5.mak] at h; exact h, lm5, rfl, ⟨_, SqL.of hlm⟩, fun D nD => ?_⟩
      refine lc_of (ts := ms.map mT) hlm (by rw [← mT_d]; exact hmv) (fun t ht => ?_) (by rw [List.length_map]; omega) nD fun U ps sU hD hp => ?_
      · obtain ⟨r, _, rfl⟩ := List.mem_map.mp ht
        exact m_imm r
      obtain ⟨kvs, k1, k2, k3⟩ := hp.kvs
      refine ⟨D, ps, kvs, rfl, SqL.of hD, k1, fun by_ nby => ?_⟩
      have g3 := same_upd (o := .dK (mergeK [] kvs)) nby
      have sA := sU.trans g3
      have gsA := gs5.go hb5 (But.of sA)
      have hbA := sA _ _ hb5
      have hby : (upd U by_ (.dK (mergeK [] kvs))) by_ = some (.dK (mergeK [] kvs)) := upd_same
      have nbg : by_ ≠ gd := fun z => by
        rw [z, sU _ _ gs5.hgd] at nby
        cases nby
      have hbv : ∀ m ∈ ms, ∃ v, valV (mergeK [] kvs) (kS m.nm) = some v ∧ Dp K (upd U by_ (.dK (mergeK [] kvs))) v (.tuple [strD m.so, .tuple (m.pt.map strD)]) := fun m hm => by
        obtain ⟨v, h1, h2⟩ := k3 (mT m) (List.mem_map_of_mem hm)
        exact ⟨v, merge_in kvs [] (by rw [k2]; exact ndm) _ h1, dp_same g3 h2⟩
      obtain ⟨YA, eA⟩ : ∃ YA, YA = upd U by_ (.dK (mergeK [] kvs)) := ⟨_, rfl⟩
      rw [← eA] at gsA hbA hby hbv ⊢
      refine ⟨_, rfl, gd, _, rfl, DPut.k (k := Sum.inr "by") gsA.hgd (small1000 (by omega)), _, by_, mergeK [] kvs, rfl, gsA.set (kvs' := putK kvs5 (Sum.inr "by") (.ref by_)) (ms' := ms) (ru' := ru) gsA.hlm gsA.n2 gsA.hlr gsA.n3 ?_ ?_ ?_ ?_ ?_, ?_, ?_, nbg, ?_, (merge_keys kvs [] (by show (kvs.map (·.1)).Nodup; rw [k2]; exact ndm)).trans (by show kvs.map (·.1) = _; rw [k2, List.map_map]; rfl), fun m hm => ?_, ?_⟩
      · rw [valV_put, if_neg (by decide +kernel)]; exact gsA.cap
      · rw [valV_put, if_neg (by decide +kernel)]; exact gsA.so
      · rw [valV_put, if_neg (by decide +kernel)]; exact gsA.mak
      · rw [valV_put, if_neg (by decide +kernel)]; exact gsA.rl
      · rw [valV_put, if_neg (by decide +kernel)]; exact gsA.ofv
      · have := length_putK kvs5 (Sum.inr "by") (.ref by_)
        omega
      · rw [valV_put, if_pos rfl]
      · rw [upd_ne nbg]; exact hby
      · obtain ⟨v, h1, h2⟩ := hbv m hm
        exact ⟨v, h1, dp_imm (KeepT.at_ gsA.hgd dK_no) h2 (m_imm m)⟩
      · rw [upd_ne (fun z => by rw [z, gsA.hgd] at hbA; cases hbA)]; exact hbA
    rintro σ X6 ⟨kvs6, by_, byk, rfl, gs6, kl6, hbyv, nbg, hby, hbks, hbv, hb6⟩
    -- by their targets: not followed
    obtain ⟨rv, hlr, hrv⟩ := gs6.hlr
    have lrv := dpAll_len hrv
    rw [List.length_map] at lrv
    refine ⟨_, rfl, gd, .ref lr5, rfl, by have h := DGet.k (k := Sum.inr "rules") gs6.hgd; rw [gs6.rl] at h; exact h, lr5, rfl, ⟨_, SqL.of hlr⟩, fun D nD => ?_⟩
    refine lc_list (K := K) (a := lr5) (xs := rv) (fun j U => Same X6 U ∧ ∃ (ps : List Addr) (ks : List (Addr × PyData × V)), U D = some (.lst (ps.map V.ref)) ∧ Paired (fun p k => SqT K U p [.ref k.1, k.2.2] ∧ Dp K U (.ref k.1) k.2.1 ∧ imm k.2.1 = true ∧ (keyD k.2.1).depth ≤ 8) ps ks ∧ ps.length = j) ⟨same_upd nD, [], [], upd_same, .nil, rfl⟩ (fun j U _ h => SqL.of (h.1 _ _ hlr)) ?_ ?_
    · rintro j x U hx ⟨sU, ps, ks, hD, hp, hpl⟩
      obtain ⟨dd, hdd, hxd⟩ := dpAll_at hrv hx
      rw [List.getElem?_map] at hdd
      obtain ⟨r, hr, rfl⟩ : ∃ r, ru[j]? = some r ∧ dd = r.d := by
        cases h : ru[j]? with
        | none => rw [h] at hdd; cases hdd
        | some e => rw [h] at hdd; exact ⟨e, rfl, (Option.some.inj hdd).symm⟩
      have hj : j < ru.length := (List.getElem?_eq_some_iff.mp hr).1
      obtain ⟨q0, v2, v4, rfl, hq, h2⟩ := rr_at (dp_same sU hxd)
      refine ⟨rfl, yesT ?_⟩
      refine ⟨_, rfl, 2, rfl, q0, _, rfl, hq, fun U1 t1 s1 ht1 => ?_⟩
      have ht1 : SqT K U1 t1 [.str (SX.S r.ma), v2] := ht1
      refine ⟨_, rfl, 2, rfl, q0, _, rfl, Same.seqT s1 hq, fun U2 t2 s2 ht2 => ?_⟩
      refine ⟨by show 2 ≤ sizeLine; decide, fun p3 n3 => ?_⟩
      have s3 := same_upd (o := .tup [.ref t1, .ref t2]) n3
      have sA := s1.trans (s2.trans s3)
      have hD3 := sA _ _ hD
      have dk : Dp K U1 (.ref t1) (.tuple [strD r.ma, r.tg.d]) := .tup ht1 (.cons (.str _) (.cons (dp_same s1 h2) .nil))
      have ik : imm (.tuple [strD r.ma, r.tg.d]) = true := by
        show (true && (imm r.tg.d && true)) = true
        rw [r.tg.imm]
        rfl
      have kk : KeepT (upd U2 p3 (.tup [.ref t1, .ref t2])) (upd (upd U2 p3 (.tup [.ref t1, .ref t2])) D (.lst (ps.map V.ref ++ [.ref p3]))) := KeepT.at_ hD3 lst_no
      refine ⟨_, hD3, small1000 (by rw [List.length_map]; omega), Same.at_ (sU.trans sA) nD, ps ++ [p3], ks ++ [(t1, .tuple [strD r.ma, r.tg.d], .ref t2)], ?_, paired_snoc (paired_mono (fun p k h => ?_) hp) ⟨kk.seqT (SqT.of upd_same), dp_imm ((KeepT.of (s2.trans s3)).trans kk) dk ik, ik, key_depth _ _⟩, by rw [List.length_append]; show ps.length + 1 = j + 1; omega⟩
      · rw [List.map_append]
        exact upd_same
      · obtain ⟨q1, q2, q3, q4⟩ := h
        exact ⟨((KeepT.of sA).trans kk).seqT q1, dp_imm ((KeepT.of sA).trans kk) q2 q3, q3, q4⟩
    · rintro U ⟨sU, ps, ks, hD, hp, hpl⟩
      refine ⟨D, ps, ks, rfl, SqL.of hD, hp, fun pz npz => ?_⟩
      have gsU := gs6.go hb6 (But.of sU)
      have hbU := sU _ _ hb6
      have gsF := gsU.set (kvs' := putK kvs6 (Sum.inr "has") (.ref pz)) (ms' := ms) (ru' := ru) gsU.hlm gsU.n2 gsU.hlr gsU.n3 (by rw [valV_put, if_neg (by decide +kernel)]; exact gsU.cap) (by rw [valV_put, if_neg (by decide +kernel)]; exact gsU.so) (by rw [valV_put, if_neg (by decide +kernel)]; exact gsU.mak) (by rw [valV_put, if_neg (by decide +kernel)]; exact gsU.rl) (by rw [valV_put, if_neg (by decide +kernel)]; exact gsU.ofv)
      refine ⟨_, rfl, gd, _, rfl, DPut.k (k := Sum.inr "has") gsU.hgd (small1000 (by omega)), _, rfl, q _ gd rs ms ru b5 gsF.bt gsF.nH ⟨ls, lm5, lr5, of, _, gsF.any, by_, byk, ?_, nbg, ?_, hbks, fun m hm => ?_⟩ ⟨hrs, rs1, hmn, hmo, hm8, hm1, hru, hroof⟩ ?_ (hB5.mono (by omega))⟩
      · rw [valV_put, if_neg (by decide +kernel)]; exact hbyv
      · rw [upd_ne nbg]; exact sU _ _ hby
      · obtain ⟨v, h1, h2⟩ := hbv m hm
        exact ⟨v, h1, dp_imm ((KeepT.of sU).trans (KeepT.at_ gsU.hgd dK_no)) h2 (m_imm m)⟩
      · rw [upd_ne (fun z => by rw [z, gsU.hgd] at hbU; cases hbU)]; exact hbU
end
abbrev s__law_any : Stmt := top 68
abbrev N__law_any : List Str := ["_law_box", "_law_roof"]
abbrev P__law_any : List Str := ["_law_box"]
theorem sc__law_any : FnScope N__law_any P__law_any (defScope s__law_any) := ⟨rfl, rfl, rfl, by decide +kernel, rfl, by decide +kernel, by decide +kernel⟩
def spAny (K : PySem.W.Frag) : Sp := fun vs H Q _ => ∃ (a : Addr) (m : Nat) (b : List V), vs = [.ref a] ∧ H a = some (.lst b) ∧ BoxL m b ∧ m + 8010 < 900000 ∧
  ∀ (H' : Hp) (gd : Addr) (rs : List SRow) (ms : List MRow) (ru : List RRow) (roof : Nat) (b' : List V), But a H H' → H gd = none → GramIn K H' a gd rs ms ru roof → GramOk rs ms ru roof → H' a = some (.lst b') → BoxL (m + 8010) b' → Q (.ref gd) H'
section
variable {P : Program} {w : World} {K : PySem.W.Frag} {mg : Str → Option Value} {base : Heap}
theorem ok_any (c_law_take : C8.Cal P w K mg base 1 "_law_take" spTake []) (c_law_drawn : C8.Cal P w K mg base 4 "_law_drawn" (spDrawn K) [])
    (D : Dd K mg "_law_any" s__law_any P__law_any) : C8.Cal P w K mg base 5 "_law_any" (spAny K) [] := by
  refine D.cal sc__law_any (fun vs H Q E h => ?_) (fun f cdv A outer s H vs Q E hr h => ?_)
  · obtain ⟨a, m, b, rfl, _⟩ := h
    rfl
  · obtain ⟨a, m, b, rfl, ha, hB, hm, q⟩ := h
    refine ⟨_, (pss_cons (ps_set (i := 1) sc__law_any.nd rfl (Or.inl rfl) (pe_ix ix_list (pe_lst (pa_cons pe_int (pa_cons pe_int (pa_cons (pe_op op_add pe_int (C8.pe_c c_law_take hr (by decide) (by rfl) (pa_cons (pv 0) (pa_cons pe_int pa_nil)))) pa_nil)))) (C8.pe_c c_law_take hr (by decide) (by rfl) (pa_cons (pv 0) (pa_cons pe_int pa_nil))) (fun _ _ => rfl)))
        (pss_one (ps_ret (C8.pe_c c_law_drawn hr (by decide) (by rfl) (pa_cons (pv 0) (pa_cons (pv 1) (pa_cons (pe_tup (pa_cons (pe_cmpR op_eq (C8.pe_c c_law_take hr (by decide) (by rfl) (pa_cons (pv 0) (pa_cons pe_int pa_nil))) pe_int (nomark _)) (pa_cons (pe_ix ix_list (pe_lst (pa_cons pe_int (pa_cons pe_int (pa_cons pe_int pa_nil)))) (C8.pe_c c_law_take hr (by decide) (by rfl) (pa_cons (pv 0) (pa_cons pe_int pa_nil))) (fun _ _ => rfl)) pa_nil))) pa_nil))))))), ?_⟩
    refine ⟨_, rfl, a, 9, _, b, rfl, ha, hB, by omega, by decide, by decide, fun r1 b1 r10 r11 hB1 => ?_⟩
    refine ⟨_, _, rfl, rfl, by show 3 ≤ sizeLine; decide, fun l1 n1 => ?_⟩
    obtain ⟨n9, rfl⟩ := Int.eq_ofNat_of_zero_le r10
    have hb1 : (upd H a (.lst b1)) a = some (.lst b1) := upd_same
    have bt1 : But a H (upd H a (.lst b1)) := But.upd (But.refl a H)
    have s1 := same_upd (o := .lst [.int 0, .int 0, .int (1 + ((n9 : Nat) : Int))]) n1
    have n1a : l1 ≠ a := fun z => by
      rw [z, hb1] at n1
      cases n1
    refine ⟨_, rfl, a, 3, _, b1, rfl, s1 _ _ hb1, hB1, by omega, by decide, by decide, fun r2 b2 r20 r21 hB2 => ?_⟩
    obtain ⟨n2, rfl⟩ := Int.eq_ofNat_of_zero_le r20
    have bt2 : But a H (upd (upd (upd H a (.lst b1)) l1 (.lst [.int 0, .int 0, .int (1 + ((n9 : Nat) : Int))])) a (.lst b2)) := (bt1.trans (But.of s1)).trans (But.upd (But.refl a _))
    have hb2 : (upd (upd (upd H a (.lst b1)) l1 (.lst [.int 0, .int 0, .int (1 + ((n9 : Nat) : Int))])) a (.lst b2)) a = some (.lst b2) := upd_same
    have hl2 : (upd (upd (upd H a (.lst b1)) l1 (.lst [.int 0, .int 0, .int (1 + ((n9 : Nat) : Int))])) a (.lst b2)) l1 = some (.lst [.int 0, .int 0, .int (1 + ((n9 : Nat) : Int))]) := by
      rw [upd_ne n1a]
      exact upd_same
    obtain ⟨X2, e2⟩ : ∃ X2, X2 = upd (upd (upd H a (.lst b1)) l1 (.lst [.int 0, .int 0, .int (1 + ((n9 : Nat) : Int))])) a (.lst b2) := ⟨_, rfl⟩
    rw [← e2] at bt2 hb2 hl2 ⊢
    obtain ⟨roof, hat, hroof⟩ : ∃ roof : Nat, atI [V.int 0, V.int 0, V.int (1 + ((n9 : Nat) : Int))] ((n2 : Nat) : Int) = some (.int (roof : Nat)) ∧ roof ≤ 9 := by
      rcases n2 with _ | _ | _ | n2
      · exact ⟨0, atI_nat (j := 0) rfl, by decide⟩
      · exact ⟨0, atI_nat (j := 1) rfl, by decide⟩
      · exact ⟨1 + n9, atI_nat (j := 2) rfl, by omega⟩
      · omega
    refine ⟨l1, _, _, _, rfl, rfl, SqL.of hl2, hat, ?_⟩
    refine ⟨_, rfl, _, rfl, _, rfl, a, 3, _, b2, rfl, hb2, hB2, by omega, by decide, by decide, fun r3 b3 r30 r31 hB3 => ?_⟩
    refine ⟨rfl, by show 3 ≤ sizeLine; decide, fun l3 n3 => ?_⟩
    have hb3 : (upd X2 a (.lst b3)) a = some (.lst b3) := upd_same
    have s3 := same_upd (o := .lst [.int 1000, .int 1000, .int 12]) n3
    have n3a : l3 ≠ a := fun z => by
      rw [z, hb3] at n3
      cases n3
    refine ⟨_, rfl, a, 3, _, b3, rfl, s3 _ _ hb3, hB3, by omega, by decide, by decide, fun r4 b4 r40 r41 hB4 => ?_⟩
    obtain ⟨n4, rfl⟩ := Int.eq_ofNat_of_zero_le r40
    have bt4 : But a H (upd (upd (upd X2 a (.lst b3)) l3 (.lst [.int 1000, .int 1000, .int 12])) a (.lst b4)) := ((bt2.trans (But.upd (But.refl a _))).trans (But.of s3)).trans (But.upd (But.refl a _))
    have hb4 : (upd (upd (upd X2 a (.lst b3)) l3 (.lst [.int 1000, .int 1000, .int 12])) a (.lst b4)) a = some (.lst b4) := upd_same
    have hl4 : (upd (upd (upd X2 a (.lst b3)) l3 (.lst [.int 1000, .int 1000, .int 12])) a (.lst b4)) l3 = some (.lst [.int 1000, .int 1000, .int 12]) := by
      rw [upd_ne n3a]
      exact upd_same
    obtain ⟨X4, e4⟩ : ∃ X4, X4 = upd (upd (upd X2 a (.lst b3)) l3 (.lst [.int 1000, .int 1000, .int 12])) a (.lst b4) := ⟨_, rfl⟩
    rw [← e4] at bt4 hb4 hl4 ⊢
    obtain ⟨wn, hat4, w0, w1⟩ : ∃ wn : Nat, atI [V.int 1000, V.int 1000, V.int 12] ((n4 : Nat) : Int) = some (.int (wn : Nat)) ∧ 0 < wn ∧ wn < 1000000 := by
      rcases n4 with _ | _ | _ | n4
      · exact ⟨1000, atI_nat (j := 0) rfl, by decide, by decide⟩
      · exact ⟨1000, atI_nat (j := 1) rfl, by decide, by decide⟩
      · exact ⟨12, atI_nat (j := 2) rfl, by decide, by decide⟩
      · omega
    refine ⟨l3, _, _, _, rfl, rfl, SqL.of hl4, hat4, by show 2 ≤ sizeLine; decide, fun t5 n5 => ?_⟩
    have s5 := same_upd (o := .tup [.bl (decide (V.int r3 = V.int 0)), .int (wn : Nat)]) n5
    exact ⟨a, roof, _, _, _, wn, b4, rfl, .tup (SqT.of upd_same) (.cons (.bl _) (.cons (.int _) .nil)), w0, w1, hroof, s5 _ _ hb4, hB4, by omega, fun H' gd rs ms ru b' bt ng gi go hb' hB' => q H' gd rs ms ru roof b' ((bt4.trans (But.of s5)).trans bt) (But.free (bt4.trans (But.of s5)) (s5 _ _ hb4) ng) gi go hb' (hB'.mono (by omega))⟩
end
/-! ### dicts whose keys are tuples with tuples in them, followed -/
abbrev NE : Type := NestedKey × Addr × V
abbrev KN : List NE → List (NestedKey × Addr × Value) → Prop := Paired fun p q => p.1 = q.1 ∧ p.2.1 = q.2.1 ∧ RelV p.2.2 q.2.2
def dnRaw (P : Program) (w : World) (a : Addr) (kvs : List NE) (h : Heap) : Prop := kvs.length ≤ sizeLine ∧ (a == sysModules) = false ∧
  ∃ (xs : List (NestedKey × Addr × Value)) (o : Obj) (es : Array DictEntry) (ep : Nat), KN kvs xs ∧ h.get? a = some o ∧ o.ExactDict ∧ o.data = .dict es ep ∧ es.toList = xs.map (entryOfKey (nestedKind P w)) ∧ (xs.map (·.1)).Nodup
def dnO (P : Program) (w : World) (a : Addr) (kvs : List NE) : HO := .ext (dnRaw P w a kvs)
theorem dnO_ok {P : Program} {w : World} {H : Hp} {h : Heap} {a : Addr} {kvs : List NE} (x : dnRaw P w a kvs h) : ObjOk P w H h a (dnO P w a kvs) := by
  refine ⟨x, ?_, fun g1 g2 y k => ?_⟩
  · obtain ⟨_, _, xs, o, es, ep, _, e, _⟩ := x
    exact ⟨o, e⟩
  · obtain ⟨z1, z2, xs, o, es, ep, z3, e, z4⟩ := y
    exact ⟨z1, z2, xs, o, es, ep, z3, k _ e, z4⟩
/-- there, or locked -/
def DnA (P : Program) (w : World) (H : Hp) (a : Addr) (kvs : List NE) : Prop := H a = some (dnO P w a kvs) ∨ ∃ o, H a = some (.frz o (dnO P w a kvs))
/-- its keys stand -/
def KeysN (K : PySem.W.Frag) (H : Hp) (kvs : List NE) : Prop := ∀ p ∈ kvs, ∃ d, p.1 = keyD d ∧ Dp K H (.ref p.2.1) d ∧ imm d = true ∧ (keyD d).depth ≤ 8
theorem KeysN.keep {K : PySem.W.Frag} {H H' : Hp} {kvs : List NE} (h : KeysN K H kvs) (k : KeepT H H') : KeysN K H' kvs := fun p hp => by
  obtain ⟨d, h1, h2, h3, h4⟩ := h p hp
  exact ⟨d, h1, dp_imm k h2 h3, h3, h4⟩
theorem KeysN.nil {K : PySem.W.Frag} {H : Hp} : KeysN K H [] := fun p hp => nomatch hp
def valN : List NE → NestedKey → Option V
  | [], _ => none
  | p :: r, k => if p.1 = k then some p.2.2 else valN r k
theorem valN_app {xs ys : List NE} {k : NestedKey} : valN (xs ++ ys) k = match valN xs k with
    | some v => some v
    | none => valN ys k := by
  induction xs with
  | nil => rfl
  | cons p r ih =>
    show (if p.1 = k then some p.2.2 else valN (r ++ ys) k) = match (if p.1 = k then some p.2.2 else valN r k) with
      | some v => some v
      | none => valN ys k
    by_cases h : p.1 = k
    · rw [if_pos h, if_pos h]
    · rw [if_neg h, if_neg h, ih]
theorem KN.val {kvs : List NE} {xs : List (NestedKey × Addr × Value)} (r : KN kvs xs) (k : NestedKey) : (valN kvs k = none ∧ atKey xs k = none) ∨ ∃ v p, valN kvs k = some v ∧ atKey xs k = some p ∧ RelV v p.2 := by
  induction r with
  | nil => exact .inl ⟨rfl, rfl⟩
  | @cons p q ps qs h t ih =>
    by_cases e : p.1 = k
    · refine .inr ⟨p.2.2, q.2, if_pos e, ?_, h.2.2⟩
      show ((q :: qs).find? fun x => decide (x.1 = k)).map (·.2) = some q.2
      rw [List.find?_cons_of_pos (by rw [← h.1]; exact decide_eq_true e)]
      rfl
    · have e1 : valN (p :: ps) k = valN ps k := if_neg e
      have e2 : atKey (q :: qs) k = atKey qs k := by
        show ((q :: qs).find? fun x => decide (x.1 = k)).map (·.2) = _
        rw [List.find?_cons_of_neg (by rw [← h.1]; simpa using e)]
        rfl
      rw [e1, e2]
      exact ih
theorem KN.len {kvs : List NE} {xs : List (NestedKey × Addr × Value)} (r : KN kvs xs) : kvs.length = xs.length := Paired.length r
theorem KN.at_ {kvs : List NE} {xs : List (NestedKey × Addr × Value)} (r : KN kvs xs) : ∀ {i : Nat} {p : NE}, kvs[i]? = some p → ∃ q, xs[i]? = some q ∧ p.1 = q.1 ∧ p.2.1 = q.2.1 ∧ RelV p.2.2 q.2.2 := by
  induction r with
  | nil => intro i p e; simp at e
  | @cons p q ps qs h t ih =>
    intro i p' e
    cases i with
    | zero => cases e; exact ⟨q, rfl, h⟩
    | succ i =>
      obtain ⟨q', e1, e2⟩ := ih (i := i) (p := p') (by simpa using e)
      exact ⟨q', by simpa using e1, e2⟩
theorem KN.is {K : PySem.W.Frag} {X : Cx} {pins : List (Addr × Obj)} {σ : L2.St} {H : Hp} {s : Shared} (I : Inv X pins σ H s) {kvs : List NE} {xs : List (NestedKey × Addr × Value)} (r : KN kvs xs) (ks : KeysN X.K H kvs) : ∀ x ∈ xs, (nestedKind X.prog X.w).is s.heap x.1 x.2.1 := by
  induction r with
  | nil => intro x hx; exact nomatch hx
  | @cons p q ps qs h t ih =>
    intro x hx
    rcases List.mem_cons.mp hx with e | hx
    · subst e
      obtain ⟨d, h1, h2, h3, h4⟩ := ks p (List.mem_cons_self ..)
      rw [← h.1, ← h.2.1, h1]
      exact ⟨nst I h2 h3 rfl, h4⟩
    · exact ih (fun p' hp' => ks p' (List.mem_cons_of_mem _ hp')) x hx
section
variable {X : Cx} {pins : List (Addr × Obj)} {σ : L2.St} {H : Hp} {s : Shared} {a : Addr} {kvs : List NE}
theorem dn_raw (I : Inv X pins σ H s) (e : DnA X.prog X.w H a kvs) : dnRaw X.prog X.w a kvs s.heap := by
  rcases e with e | ⟨o, e⟩
  · exact (show ObjOk X.prog X.w H s.heap a (dnO X.prog X.w a kvs) from I.hok a _ e).1
  · have x : s.heap.get? a = some o ∧ ObjOk X.prog X.w H s.heap a (dnO X.prog X.w a kvs) := I.hok a _ e
    exact (show ObjOk X.prog X.w H s.heap a (dnO X.prog X.w a kvs) from x.2).1
theorem dn_of (I : Inv X pins σ H s) (e : DnA X.prog X.w H a kvs) (ks : KeysN X.K H kvs) : kvs.length ≤ sizeLine ∧ (a == sysModules) = false ∧ ∃ xs, KN kvs xs ∧ s.heap.DictOfH (nestedKind X.prog X.w) a xs := by
  obtain ⟨z1, z2, xs, o, es, ep, r, h1, h2, h3, h4, h5⟩ := dn_raw I e
  exact ⟨z1, z2, xs, r, o, es, ep, h1, h2, h3, h4, KN.is (K := X.K) I r ks, h5⟩
end
/-- a new empty one -/
def tDNewN (P : Program) (w : World) : TE := fun _ H Q => ∀ p, H p = none → Q (.ref p) (upd H p (dnO P w p []))
theorem pe_dnewN {X : Cx} {pos : Pos} : PE X (.Dict [] [] pos) (tDNewN X.prog X.w) := ⟨fun pins s σ H Q I h => by
  refine wpAny_Dict_empty ⟨.ref s.heap.objs.size, _, I.laid (a := s.heap.objs.size) (o := dnO X.prog X.w s.heap.objs.size []) (t' := s.toks) (fun _ _ q => Heap.get?_push_of_some _ q) (Nat.le_refl _) (dnO_ok ?_), rfl, h _ (I.hok.fresh (Nat.le_refl _))⟩
  exact ⟨Nat.zero_le _, beq_eq_false_iff_ne.mpr (Ne.symm (Nat.ne_of_lt I.big)), [], _, #[], 0, .nil, Heap.get?_push_size _ rfl, ⟨rfl, rfl, rfl⟩, rfl, rfl, List.nodup_nil⟩⟩
section
variable {X : Cx}
/-- a key: a tuple that stands -/
def KeyN (K : PySem.W.Frag) (H : Hp) (y : V) (b : Addr) (d : PyData) : Prop := y = .ref b ∧ Dp K H (.ref b) d ∧ imm d = true ∧ (keyD d).depth ≤ 8
def rInN (K : PySem.W.Frag) (P : Program) (w : World) : R2 := fun y x H Q => ∃ (a b : Addr) (kvs : List NE) (d : PyData), x = .ref a ∧ DnA P w H a kvs ∧ KeysN K H kvs ∧ KeyN K H y b d ∧ Q (.bl (valN kvs (keyD d)).isSome) H
theorem op_inN (hu : X.A.units + 9 < cLine) : OpR X (compareOp .In) (rInN X.K X.prog X.w) := by
  intro pins s σ H y x v u Q I ry rx h
  obtain ⟨a, b, kvs, d, rfl, hd, hk, ⟨rfl, h1, h2, h3⟩, q⟩ := h
  obtain rfl : v = Value.ref b := ry
  obtain rfl : u = Value.ref a := rx
  obtain ⟨_, z, xs, r, dd⟩ := dn_of I hd hk
  refine wpAny_in_heap (knd := nestedKind X.prog X.w) (k := keyD d) (by show X.A.in1.units + 8 < cLine; show X.A.units + 1 + 8 < cLine; omega) ⟨nst I h1 h2 rfl, h3⟩ z dd ⟨.bl _, H, I.tok _, ?_, q⟩
  rcases r.val (keyD d) with ⟨e1, e2⟩ | ⟨v, p, e1, e2, _⟩
  · rw [e1, e2]
    rfl
  · rw [e1, e2]
    rfl
def rIxN (K : PySem.W.Frag) (P : Program) (w : World) : R2 := fun x y H Q => ∃ (a b : Addr) (kvs : List NE) (d : PyData) (v : V), x = .ref a ∧ DnA P w H a kvs ∧ KeysN K H kvs ∧ KeyN K H y b d ∧ valN kvs (keyD d) = some v ∧ Q v H
theorem get_dn (hu : X.A.units + 9 < cLine) {pins : List (Addr × Obj)} {σ : L2.St} {H : Hp} {s : Shared} {a b : Addr} {kvs : List NE} {d : PyData} {v : V} {Q : VK} (I : Inv X pins σ H s) (hd : DnA X.prog X.w H a kvs) (hk : KeysN X.K H kvs) (h1 : Dp X.K H (.ref b) d) (h2 : imm d = true) (h3 : (keyD d).depth ≤ 8) (hv : valN kvs (keyD d) = some v) (q : Q v H) :
    wpAny (model X.prog X.w) X.A (getItem (.ref a) (.ref b)) (EP X pins σ Q) X.xe s := by
  obtain ⟨_, z, xs, r, dd⟩ := dn_of I hd hk
  rcases r.val (keyD d) with ⟨e1, _⟩ | ⟨v', p, e1, e2, rv⟩
  · rw [hv] at e1
    cases e1
  · rw [hv] at e1
    cases e1
    exact wpAny_getItem_heap (knd := nestedKind X.prog X.w) (k := keyD d) (by show X.A.units + 1 + 8 < cLine; omega) ⟨nst I h1 h2 rfl, h3⟩ dd e2 ⟨v, H, I.tok _, rv, q⟩
/-- d[k] = v for a key that isn't there yet -/
def rSetN (K : PySem.W.Frag) (P : Program) (w : World) : TSet := fun x y v H Q => ∃ (a b : Addr) (kvs : List NE) (d : PyData), x = .ref a ∧ H a = some (dnO P w a kvs) ∧ KeysN K H kvs ∧ KeyN K H y b d ∧ valN kvs (keyD d) = none ∧ kvs.length < 10000 ∧ Q (upd H a (dnO P w a (kvs ++ [(keyD d, b, v)])))
theorem set_dn (hu : X.A.units + 9 < cLine) : PSet X (rSetN X.K X.prog X.w) := by
  intro pins s σ H x y v xv yv u Q I rx ry rv h
  obtain ⟨a, b, kvs, d, rfl, hd, hk, ⟨rfl, h1, h2, h3⟩, hv, hl, q⟩ := h
  obtain rfl : xv = Value.ref a := rx
  obtain rfl : yv = Value.ref b := ry
  obtain ⟨z0, z, xs, r, dd⟩ := dn_of I (.inl hd) hk
  have hn : atKey xs (keyD d) = none := by
    rcases r.val (keyD d) with ⟨_, e2⟩ | ⟨v', p, e1, e2, _⟩
    · exact e2
    · rw [hv] at e1
      cases e1
  refine wpAny_setItem_heap (knd := nestedKind X.prog X.w) (k := keyD d) (hsz := by rw [← r.len]; exact z0) (by show X.A.units + 1 + 8 < cLine; omega) ⟨nst I h1 h2 rfl, h3⟩ dd fun h' hm hs => ?_
  rw [storedH_new hn] at hm
  obtain ⟨o, es, ep, g1, g2, g3, g4, _, g6⟩ := hm
  refine ⟨_, d_write I (by rw [hd]; trivial) hs ⟨o, g1⟩ (dnO_ok ⟨?_, z, _, o, es, ep, ?_, g1, g2, g3, g4, g6⟩), q⟩
  · rw [List.length_append]
    exact Nat.le_trans (show kvs.length + 1 ≤ 10000 from hl) (by decide)
  · have app : ∀ {ps : List NE} {qs : List (NestedKey × Addr × Value)}, KN ps qs → KN (ps ++ [(keyD d, b, v)]) (qs ++ [(keyD d, b, u)]) := by
      intro ps qs r
      induction r with
      | nil => exact .cons ⟨rfl, rfl, rv⟩ .nil
      | cons h t ih => exact .cons h ih
    exact app r
/-- the length -/
def rLenN (P : Program) (w : World) : List V → Hp → VK → Prop := fun xs H Q => ∃ (a : Addr) (kvs : List NE), xs = [.ref a] ∧ DnA P w H a kvs ∧ Q (.int ((kvs.length : Nat) : Int)) H
end
section
variable {X : Cx} {o i : Expr} {pos : Pos} {td ty : TE}
/-- d[k], there -/
def tDGetN (K : PySem.W.Frag) (P : Program) (w : World) (td ty : TE) : TE := fun σ H Q => td σ H fun x H1 => ty σ H1 fun y H2 => rIxN K P w x y H2 Q
theorem pe_dgetN (hu : X.A.units + 9 < cLine) (ho : PE X o td) (hi : PE X i ty) (hs : NoSl i) : PE X (.Subscript o i pos) (tDGetN X.K X.prog X.w td ty) := by
  refine ⟨fun pn s σ H Q I h => ?_⟩
  refine subD_of PySem.F.slot_dict_getitem.lookup hs (thn (ho.run pn s σ H _ I h) fun u s1 ⟨x, H1, J1, ex1, q1⟩ => thn (hi.run pn s1 σ H1 _ J1 q1) fun iv s2 ⟨y, H2, J2, ry, a, b, kvs, d, v, ex, hd, hk, ⟨ey, h1, h2, h3⟩, hv, q2⟩ => ?_)
  subst ex ey
  obtain rfl : u = Value.ref a := ex1
  obtain rfl : iv = Value.ref b := ry
  obtain ⟨_, _, xs, _, dd⟩ := dn_of J2 hd hk
  exact ⟨dd.typeIs, get_dn hu J2 hd hk h1 h2 h3 hv q2⟩
theorem call_len_dN : CallR X (.builtin "len") (fun xs H Q => ∃ (a : Addr) (kvs : List NE), xs = [.ref a] ∧ DnA X.prog X.w H a kvs ∧ KeysN X.K H kvs ∧ Q (.int ((kvs.length : Nat) : Int)) H) := by
  intro pn s σ H xs us Q I r h
  obtain ⟨a, kvs, rfl, hd, hk, q⟩ := h
  obtain ⟨u, rfl, ex1⟩ := vals1 r
  obtain rfl : u = .ref a := ex1
  obtain ⟨z, y, ys, rel, dd⟩ := dn_of I hd hk
  have hl := rel.len
  refine call_len_dictH y dd (by rw [← hl]; rw [sizeLine_eq] at z; omega) ?_
  rw [← hl]
  exact ⟨.int ((kvs.length : Nat) : Int), H, I.tok _, ⟨_, rfl⟩, q⟩
/-- d.get(k) -/
theorem mt_getN (hu : X.A.units + 9 < cLine) : MtR X "dict.get" (fun x xs H Q => ∃ (a b : Addr) (kvs : List NE) (d : PyData) (y : V), x = .ref a ∧ xs = [y] ∧ DnA X.prog X.w H a kvs ∧ KeysN X.K H kvs ∧ KeyN X.K H y b d ∧ Q ((valN kvs (keyD d)).getD .non) H) := by
  intro pn s σ H x xs v us Q I ex1 rxs h
  obtain ⟨a, b, kvs, d, y, rfl, rfl, hd, hk, ⟨rfl, h1, h2, h3⟩, q⟩ := h
  obtain rfl : v = Value.ref a := ex1
  obtain ⟨u, rfl, ry⟩ := vals1 rxs
  obtain rfl : u = Value.ref b := ry
  obtain ⟨_, z, ys, r, dd⟩ := dn_of I hd hk
  refine call_meetsIn PySem.F.slot_dict_get dd.typeIs PySem.F.entry_dict_get (PySem.F.args_dict_get_2 _ _) (meetsH_dict_get (nestedKind X.prog X.w) a b z) ⟨by show X.A.units + 1 + 8 < cLine; omega, keyD d, ys, ⟨nst I h1 h2 rfl, h3⟩, dd, ?_⟩
  rcases r.val (keyD d) with ⟨e1, e2⟩ | ⟨v', p, e1, e2, rv⟩
  · rw [e1] at q
    rw [e2]
    exact ⟨.non, H, I.tok _, rfl, q⟩
  · rw [e1] at q
    rw [e2]
    exact ⟨v', H, I.tok _, rv, q⟩
end
/-! going through it -/
section
variable {X : Cx} {pn : List (Addr × Obj)} {σ : L2.St} {H : Hp} {s : Shared} {d : Addr} {o : Obj}
theorem frzN {kvs : List NE} (I : Inv X pn σ H s) (h : H d = some (.frz o (dnO X.prog X.w d kvs))) :
    (d == sysModules) = false ∧ s.heap.get? d = some o ∧ o.ExactDict ∧ ∃ (es : Array DictEntry) (ep : Nat), o.data = .dict es ep ∧ es.size = kvs.length ∧
      ∀ (i : Nat) (p : NE), kvs[i]? = some p → ∃ (en : DictEntry), es[i]? = some en ∧ en.key = .ref p.2.1 ∧ RelV p.2.2 en.val := by
  have x : s.heap.get? d = some o ∧ ObjOk X.prog X.w H s.heap d (dnO X.prog X.w d kvs) := I.hok d _ h
  obtain ⟨hd, ok⟩ := x
  obtain ⟨_, hs, xs, o', es, ep, r, ho, hx, dat, he, _⟩ := (show ObjOk X.prog X.w H s.heap d (dnO X.prog X.w d kvs) from ok).1
  rw [hd] at ho
  cases ho
  refine ⟨hs, hd, hx, es, ep, dat, ?_, fun i p e => ?_⟩
  · rw [size_of_entries he, r.len]
  · obtain ⟨q, e1, _, e3, e4⟩ := r.at_ e
    have z := entry_at he i
    rw [e1] at z
    refine ⟨_, z, ?_, e4⟩
    rw [e3]
    rfl
end
/-- the keys of the locked dict, each its own tuple -/
def ItkN (P : Program) (w : World) (d : Addr) (o : Obj) (kvs : List NE) : It :=
  ⟨fun i H => H d = some (.frz o (dnO P w d kvs)) ∧ i < kvs.length, fun i H x H' => H' = H ∧ ∃ p, kvs[i]? = some p ∧ x = .ref p.2.1, fun i H => H d = some (.frz o (dnO P w d kvs)) ∧ kvs.length ≤ i⟩
/-- the pairs: new tuples -/
def ItiN (P : Program) (w : World) (d : Addr) (o : Obj) (kvs : List NE) : It :=
  ⟨fun i H => H d = some (.frz o (dnO P w d kvs)) ∧ i < kvs.length, fun i H x H' => ∃ T p, kvs[i]? = some p ∧ x = .ref T ∧ H T = none ∧ H' = upd H T (.tup [.ref p.2.1, p.2.2]), fun i H => H d = some (.frz o (dnO P w d kvs)) ∧ kvs.length ≤ i⟩
section
variable {P : Program} {w : World} {K : PySem.W.Frag} {tgt : Expr} {d : Addr} {o : Obj} {es : Array DictEntry} {ep : Nat}
theorem one_it {it b : Addr} (h : b ∈ [it]) : b = it := by simpa using h
theorem turn_keysN {kvs : List NE} (it : Addr) (od0 : o.data = .dict es ep) : Turn P w K tgt (ItkN P w d o kvs) [it] it (fun i h => h.IsKeyIter it d i kvs.length ep) := by
  refine ⟨by simp, fun i h st b hb => ?_, fun i h h' st k => st.at fun io e => k it (by simp) io e, ?_, ?_, fun A i s Q E st h => ?_⟩
  · obtain rfl := one_it hb
    obtain ⟨io, e, c, dd⟩ := st
    exact ⟨io, e, fun v z => by rw [dd] at z; cases z⟩
  · intro X hP hw hK hc i pn s σ H E I fp st hg
    subst hP hw hK
    obtain ⟨hd, hi⟩ := hg
    obtain ⟨c0, c1, c2, c3, c4, c5⟩ := fp it (by simp)
    obtain ⟨hs, atd, hx, es', ep', dat, siz, ens⟩ := frzN I hd
    obtain ⟨rfl, rfl⟩ := dict_ep od0 dat
    obtain ⟨p, hp⟩ : ∃ p, kvs[i]? = some p := ⟨kvs[i], List.getElem?_eq_getElem hi⟩
    obtain ⟨en, hen, ky, _⟩ := ens i p hp
    refine next_key_item st atd dat siz hen fun h' st2 sb => ?_
    have J1 : Inv X pn σ H { s with heap := h' } := I.turned (t' := s.toks) (fun b ob hb e => (sb.2 b hb).trans e) c0 c1 c3 c4 c5
    obtain ⟨io, e, c, dd⟩ := id st2
    refine ⟨en.key, rfl, go_of (s := { s with heap := h' }) e c dd (by decide) ⟨.ref p.2.1, H, J1, ky, ⟨rfl, p, hp, rfl⟩, st2, fun b hb => (fp b hb).1⟩⟩
  · intro X hP hw hK hc i pn s σ H E I fp st hg
    subst hP hw hK
    obtain ⟨hd, hi⟩ := hg
    obtain ⟨c0, c1, c2, c3, c4, c5⟩ := fp it (by simp)
    obtain ⟨hs, atd, hx, es', ep', dat, siz, ens⟩ := frzN I hd
    obtain ⟨rfl, rfl⟩ := dict_ep od0 dat
    exact next_key_end (I.ok.hd hc) st atd dat siz hi fun h' eb => ⟨rfl, I.turned (t' := s.toks) (fun b ob hb e => eb b ob hb e) c0 c1 c3 c4 c5⟩
  · refine wpAny_pyIter_slot st.typeIs PySem.F.slot_dict_keyiterator_iter (wpAny_call_entry PySem.F.slot_dict_keyiterator_iter st.typeIs PySem.F.entry_dict_keyiterator_iter ?_ (PySem.F.args_dict_keyiterator_iter_1 _))
    show wpAny _ _ (ret (.ref it)) _ _ s
    exact wpAny_pure ⟨_, rfl, "dict_keyiterator", _, st.typeIs, PySem.F.slot_dict_keyiterator_next.lookup, h⟩
theorem turn_itemsN {kvs : List NE} {els : List Expr} {kk : Nat} {tp : Pos} (it : Addr) (od0 : o.data = .dict es ep) :
    Turn P w K (.Tuple els kk tp) (ItiN P w d o kvs) [it] it (fun i h => ∃ ok ov, IsItemIter h it d i kvs.length ep ok ov) := by
  refine ⟨by simp, fun i h st b hb => ?_, fun i h h' st k => ?_, ?_, ?_, fun A i s Q E st h => ?_⟩
  · obtain rfl := one_it hb
    obtain ⟨ok, ov, e⟩ := st
    exact ⟨_, e, fun v z => nomatch z⟩
  · obtain ⟨ok, ov, e⟩ := st
    exact ⟨ok, ov, k it (by simp) _ e⟩
  · intro X hP hw hK hc i pn s σ H E I fp st hg
    subst hP hw hK
    obtain ⟨hd, hi⟩ := hg
    obtain ⟨hs, atd, hx, es', ep', dat, siz, ens⟩ := frzN I hd
    obtain ⟨rfl, rfl⟩ := dict_ep od0 dat
    obtain ⟨p, hp⟩ : ∃ p, kvs[i]? = some p := ⟨kvs[i], List.getElem?_eq_getElem hi⟩
    obtain ⟨en, hen, ky, vl⟩ := ens i p hp
    obtain ⟨ok, ov, he⟩ := st
    rw [← siz] at he
    have hi' : i < es'.size := by omega
    have een : es'[i] = en := by
      rw [Array.getElem?_eq_getElem hi'] at hen
      exact Option.some.inj hen
    have low : it < s.heap.objs.size := Heap.lt_size he
    refine DT.nextI he ⟨o, atd, hx, dat⟩ hi' fun h' ho hT hz hk => ?_
    rw [een] at ho hT
    refine ⟨_, rfl, wpAny_letOwnedTupleGo_items (s := { s with heap := h' }) ho fun h'' he' sb => ?_⟩
    have hT2 : h''.get? s.heap.objs.size = some { cls := .type "tuple", data := .seq #[en.key, en.val] } := (sb.2 _ (Nat.ne_of_gt low)).trans hT
    have new : ObjOk X.prog X.w (upd H s.heap.objs.size (.tup [.ref p.2.1, p.2.2])) h'' s.heap.objs.size (.tup [.ref p.2.1, p.2.2]) :=
      ⟨by show 2 ≤ sizeLine; decide, [en.key, en.val], .cons ky (.cons vl .nil), ⟨_, hT2, rfl, _, rfl⟩⟩
    have J1 : Inv X pn σ (upd H s.heap.objs.size (.tup [.ref p.2.1, p.2.2])) { s with heap := h'' } :=
      I.turnedNew (t' := s.toks) (ch := [it]) (fun b ob hb e => (sb.2 b (by simpa using hb)).trans (hk b ob (by simpa using hb) e)) fp (Nat.le_refl _) new
    refine ⟨.ref s.heap.objs.size, _, J1, rfl, ⟨_, p, hp, rfl, I.hok.fresh (Nat.le_refl _), rfl⟩, ⟨en.key, en.val, ?_⟩, fun b hb => ?_⟩
    · rw [← siz]
      exact he'
    · obtain rfl := one_it hb
      rw [upd_ne (Nat.ne_of_lt low)]
      exact (fp b (by simp)).1
  · intro X hP hw hK hc i pn s σ H E I fp st hg
    subst hP hw hK
    obtain ⟨hd, hi⟩ := hg
    obtain ⟨c0, c1, c2, c3, c4, c5⟩ := fp it (by simp)
    obtain ⟨hs, atd, hx, es', ep', dat, siz, ens⟩ := frzN I hd
    obtain ⟨rfl, rfl⟩ := dict_ep od0 dat
    obtain ⟨ok, ov, he⟩ := st
    rw [← siz] at he
    exact DT.endI (I.ok.hd hc) he ⟨o, atd, hx, dat⟩ (by omega) fun h' eb => ⟨rfl, I.turned (t' := s.toks) (fun b ob hb e => eb b ob hb e) c0 c1 c3 c4 c5⟩
  · obtain ⟨_, _, e⟩ := st
    exact PySem.W.kcp_self e h
end
def iKeysN (P : Program) (w : World) (td : TE) : TI := fun σ H R => td σ H fun x H1 => ∃ d o kvs, x = .ref d ∧ H1 d = some (.frz o (dnO P w d kvs)) ∧ R (ItkN P w d o kvs) H1
def iItemsN (P : Program) (w : World) (td : TE) : TI := fun σ H R => td σ H fun x H1 => ∃ d o kvs, x = .ref d ∧ H1 d = some (.frz o (dnO P w d kvs)) ∧ R (ItiN P w d o kvs) H1
section
variable {X : Cx} {tgt e : Expr} {td : TE} {ap cp : Pos}
theorem pi_keysN (he : PE X e td) : PI X tgt e (iKeysN X.prog X.w td) := by
  refine ⟨fun pn s σ H R I h => ?_⟩
  refine thn (he.run pn s σ H _ I h) fun u s1 ⟨x, H1, J1, ex1, d, o, kvs, ex, hd, q⟩ => ?_
  subst ex
  obtain rfl : u = Value.ref d := ex1
  obtain ⟨hs, atd, hx, es, ep, dat, siz, ens⟩ := frzN J1 hd
  refine iter_keys hs atd hx dat (pi_one (tk := s1.toks) J1 _ (turn_keysN _ dat) ⟨_, Heap.get?_push_size _ rfl, rfl, ?_⟩ q)
  rw [siz] <;> rfl
theorem pi_itemsN {els : List Expr} {kk : Nat} {tp : Pos} (he : PE X e td) (hbase : attributeBase e "items" X.env (eval e X.env) = eval e X.env := by rfl) (hline : (ap.endLine == cp.line) = true := by rfl) :
    PI X (.Tuple els kk tp) (.Call (.Attribute e "items" ap) [] [] cp) (iItemsN X.prog X.w td) := by
  refine ⟨fun pn s σ H R I h => ?_⟩
  refine wpAny_Call_method (T := "dict") (id := "dict.items") hbase rfl hline PySem.F.plainAttrs_dict PySem.F.slot_dict_items PySem.F.type_dict_items (thn (he.run pn s σ H _ I h) fun u s1 ⟨x, H1, J1, ex1, d, o, kvs, ex, hd, q⟩ => ?_)
  subst ex
  obtain rfl : u = Value.ref d := ex1
  obtain ⟨hs, atd, hx, es, ep, dat, siz, ens⟩ := frzN J1 hd
  have raw : DT.Raw s1.heap d es ep := ⟨o, atd, hx, dat⟩
  refine ⟨raw.typeIs, ?_, ?_⟩
  · intro b e
    cases e
    exact ⟨o, atd, hx.2.1⟩
  have J2 : Inv X pn σ H1 { s1 with heap := s1.heap.push { cls := .type "dict_items", data := .fields #[.ref d] } } := J1.kept (t' := s1.toks) fun b ob q => Heap.get?_push_of_some _ q
  have goes : wpAny (model X.prog X.w) X.A (pyIter (.ref s1.heap.objs.size)) (PIE X pn σ (.Tuple els kk tp) R) X.xe { s1 with heap := s1.heap.push { cls := .type "dict_items", data := .fields #[.ref d] } } := by
    refine DT.iterI (d := d) ⟨_, Heap.get?_push_size _ rfl, rfl, rfl⟩ (raw.push _) (pi_one (tk := s1.toks) J2 _ (turn_itemsN _ dat) ⟨.none, .none, ?_⟩ q)
    rw [← siz]
    exact Heap.get?_push_size _ rfl
  show wpAny _ _ (callWith cp (.builtin "dict.items") [.ref d] [] []) _ X.xe s1
  exact method_meetsIn PySem.F.slot_dict_items PySem.F.entry_dict_items rfl (PySem.evalArgs_none ⟨rfl, raw.typeIs, PySem.F.args_dict_items_1 _, _, DT.meetsItems (es := es) (ep := ep) hs, raw, goes⟩)
end
theorem walk_keysN {P : Program} {w : World} {d : Addr} {o : Obj} {kvs : List NE} : Walk (ItkN P w d o kvs) kvs.length (fun H => H d = some (.frz o (dnO P w d kvs))) (fun i H x H' => H' = H ∧ ∃ p, kvs[i]? = some p ∧ x = .ref p.2.1) :=
  ⟨fun i _ hi q => ⟨q, hi⟩, fun _ q => ⟨q, Nat.le_refl _⟩, fun i H v H' _ q y => y⟩
theorem walk_itemsN {P : Program} {w : World} {d : Addr} {o : Obj} {kvs : List NE} : Walk (ItiN P w d o kvs) kvs.length (fun H => H d = some (.frz o (dnO P w d kvs))) (fun i H x H' => ∃ T p, kvs[i]? = some p ∧ x = .ref T ∧ H T = none ∧ H' = upd H T (.tup [.ref p.2.1, p.2.2])) :=
  ⟨fun i _ hi q => ⟨q, hi⟩, fun _ q => ⟨q, Nat.le_refl _⟩, fun i H v H' _ q y => y⟩
/-! ### sets of texts: made of a list or a tuple, counted, sorted -/
def keyTx (e : Int × Value) : Str := match e.2 with
  | .str k _ => k
  | _ => Str.empty
def TxE (w : World) (e : Int × Value) : Prop := ∃ k tk, e.2 = Value.str k tk ∧ e.1 = hashStr w k
/-- the set at a has just these texts, and can be gone through -/
def SetTx (w : World) (h : Heap) (a : Addr) (ks : List Str) : Prop := ∃ o es ep t, h.get? a = some o ∧ o.ExactSet ∧ o.data = .set es ep t ∧ (∀ e ∈ es.toList, TxE w e) ∧ (es.toList.map keyTx).Perm ks ∧ ks.Nodup ∧
  es.size < scanBound ∧ t.fits es.size = true ∧ Ris t.place.toList ∧ (w.params.followText "set-order" = true ∨ t.led = true)
theorem SetTx.keep {w : World} {h h' : Heap} {a : Addr} {ks : List Str} (R : SetTx w h a ks) (k : ∀ o, h.get? a = some o → h'.get? a = some o) : SetTx w h' a ks := by
  obtain ⟨o, es, ep, t, e, r⟩ := R
  exact ⟨o, es, ep, t, k o e, r⟩
theorem SetTx.perm {w : World} {h : Heap} {a : Addr} {ks ks' : List Str} (R : SetTx w h a ks) (p : ks.Perm ks') : SetTx w h a ks' := by
  obtain ⟨o, es, ep, t, h1, h2, h3, h4, h5, h6, r⟩ := R
  exact ⟨o, es, ep, t, h1, h2, h3, h4, h5.trans p, p.nodup_iff.mp h6, r⟩
section
variable {P : Program} {w : World} {A : Around} {E : Value → Shared → Prop} {s : Shared} {a : Addr} {ks : List Str}
theorem tx_elems {l : List (Int × Value)} (g : ∀ e ∈ l, TxE w e) : ElemsOf (PySem.strKind P w) l := fun e he => by
  obtain ⟨k, tk, h1, h2⟩ := g e he
  refine ⟨⟨k, ?_, h2⟩, ?_⟩
  · rw [h1]
    exact strKind_is P w k tk
  · rw [h1]
    rfl
theorem tx_is {e : Int × Value} (g : TxE w e) (k : Str) : (PySem.strKind P w).is k e.2 = true ↔ keyTx e = k := by
  obtain ⟨k0, tk, h1, _⟩ := g
  unfold keyTx
  rw [h1]
  constructor
  · intro z
    obtain ⟨t, q⟩ := Value.isStrOf_shape (show Value.isStrOf k (.str k0 tk) = true from z)
    injection q
  · intro z
    have z : k0 = k := z
    rw [← z]
    exact strKind_is P w k0 tk
/-- the end of an addition: it is laid in, the table is made wider at times -/
theorem tx_laid {g : Bool → Sem Unit} (hg : ∀ (b : Bool) (s₁ : Shared) (Q' : Unit → Shared → Prop), Q' () s₁ → wpAny (model P w) A (g b) Q' E s₁)
    {o : Obj} {es0 : Array (Int × Value)} {ep : Nat} {t0 : SetTable} (ho : s.heap.get? a = some o) (hex : o.ExactSet) (hd : o.data = .set es0 ep t0)
    {es : Array (Int × Value)} {t : SetTable} (h1 : ∀ e ∈ es.toList, TxE w e) (h2 : (es.toList.map keyTx).Perm ks) (h3 : ks.Nodup) (h4 : es.size < scanBound) (h5 : t.fits es.size = true) (h6 : Ris t.place.toList) (h7 : w.params.followText "set-order" = true ∨ t.led = true)
    {was : Bool} {R : Option Bool → Shared → Prop} (hR : ∀ h', Heap.SameBut a s.heap h' → SetTx w h' a ks → R (some true) { s with heap := h' }) :
    wpAny (model P w) A (do
        storeSet a es t
        if (!was && t.tooFull) = true then do
            g (relayAll t es (SetTable.grown es.size)).2.2
            storeSet a (relayAll t es (SetTable.grown es.size)).1 (relayAll t es (SetTable.grown es.size)).2.1
            pure (some true)
          else pure (some true)) R E s := by
  refine wpAny_bind (wpAny_storeSet_of ho hd ?_ (fits_of_scanBound h4))
  have at1 := store_at (es' := es) (t' := t) ho hd
  have but1 := Heap.SameBut.update s.heap a (Obj.putSet es t)
  split
  · obtain ⟨Z, eZ⟩ : ∃ Z, Z = relayAll t es (SetTable.grown es.size) := ⟨_, rfl⟩
    have q1 := relayAll_perm t es (SetTable.grown es.size)
    have q2 := relayAll_fits t es (SetTable.grown es.size)
    have q3 := relayAll_ris t es (SetTable.grown es.size)
    have q4 := relayAll_led t es (SetTable.grown es.size)
    rw [← eZ] at q1 q2 q3 q4 ⊢
    have sz : Z.1.size = es.size := by
      rw [← Array.length_toList, q1.length_eq, Array.length_toList]
    refine wpAny_bind (hg _ _ _ ?_)
    refine wpAny_bind (wpAny_storeSet_of at1 rfl ?_ (fits_of_scanBound (by rw [sz]; exact h4)))
    have at2 := store_at (es' := Z.1) (t' := Z.2.1) at1 rfl
    exact wpAny_pure (hR _ (but1.trans (Heap.SameBut.update _ a _)) ⟨_, Z.1, _, Z.2.1, at2, hex, rfl, fun e he => h1 e (q1.mem_iff.mp he), (q1.map keyTx).trans h2, h3, by rw [sz]; exact h4, q2, q3, h7.imp id fun z => by rw [q4]; exact z⟩)
  · exact wpAny_pure (hR _ but1 ⟨_, es, _, t, at1, hex, rfl, h1, h2, h3, h4, h5, h6, h7⟩)
def putTx (ks : List Str) (k : Str) : List Str := if k ∈ ks then ks else k :: ks
theorem tx_add {k : Str} {tk : Tok} {Q : Bool → Shared → Prop} (R : SetTx w s.heap a ks) (room : ks.length + 1 < scanBound)
    (hQ : ∀ b h', Heap.SameBut a s.heap h' → SetTx w h' a (putTx ks k) → Q b { s with heap := h' }) :
    wpAny (model P w) A (setAddHashed a (.str k tk) ((PySem.strKind P w).hash k)) Q E s := by
  obtain ⟨o, es, ep, t, ho, hex, hd, g, pm, nd, hb, hf, hr, hl⟩ := R
  have hel : ElemsOf (PySem.strKind P w) es.toList := tx_elems g
  unfold setAddHashed setAddHashedIn
  refine wpAny_holding (wpAny_bind (wpAny_setState_of ho hd hf ?_))
  dsimp only
  rw [byScan_of (x := Value.str k tk) rfl hb hel]
  simp only [↓reduceIte]
  unfold setAddByScan
  refine wpAny_bind (wpAny_bind (wpAny_rule (wpAny_bind (wpAny_setScan_of (strKind_is P w k tk) ho hd hf hel ?_))))
  cases hfi : List.findIdx? (fun e => (PySem.strKind P w).is k e.2) es.toList with
  | some j =>
    dsimp only
    obtain ⟨hj, pj, _⟩ := List.findIdx?_eq_some_iff_getElem.mp hfi
    have mem : k ∈ ks := pm.mem_iff.mp (List.mem_map.mpr ⟨_, List.getElem_mem hj, (tx_is (g _ (List.getElem_mem hj)) k).mp pj⟩)
    refine wpAny_pure (wpAny_pure (hQ _ s.heap (Heap.SameBut.refl a s.heap) ?_))
    unfold putTx
    rw [if_pos mem]
    exact ⟨o, es, ep, t, ho, hex, hd, g, pm, nd, hb, hf, hr, hl⟩
  | none =>
    dsimp only
    have nk : k ∉ ks := fun z => by
      obtain ⟨e, he, q⟩ := List.mem_map.mp (pm.mem_iff.mpr z)
      have c := List.findIdx?_eq_none_iff.mp hfi e he
      rw [(tx_is (P := P) (g e he) k).mpr q] at c
      cases c
    have way : ∀ (b : Bool) {s₁ : Shared} {Q' : Unit → Shared → Prop}, Q' () s₁ → wpAny (model P w) A (match b with | true => rule "set.scan.the-table-gave-way" | false => pure ()) Q' E s₁ :=
      fun b s₁ Q' q => by cases b <;> first | exact wpAny_pure q | exact wpAny_rule q
    have p1 := layNew_perm t es ((PySem.strKind P w).hash k) (.str k tk)
    have p2 := layNew_fits t es ((PySem.strKind P w).hash k) (.str k tk)
    have p3 := layNew_ris t es ((PySem.strKind P w).hash k) (.str k tk) hr
    have p4 := layNew_led t es ((PySem.strKind P w).hash k) (.str k tk)
    generalize layNew t es ((PySem.strKind P w).hash k) (.str k tk) = Z at p1 p2 p3 p4 ⊢
    obtain ⟨es1, t1, was, gave⟩ := Z
    dsimp only at p1 p2 p3 p4 ⊢
    rw [Array.toList_push] at p1
    have pc : es1.toList.Perm (((PySem.strKind P w).hash k, Value.str k tk) :: es.toList) := p1.trans (List.perm_append_singleton _ _)
    have g1 : ∀ e ∈ es1.toList, TxE w e := fun e he => by
      rcases List.mem_cons.mp (pc.mem_iff.mp he) with z | z
      · rw [z]
        exact ⟨k, tk, rfl, rfl⟩
      · exact g e z
    have pk : (es1.toList.map keyTx).Perm (k :: ks) := (pc.map keyTx).trans (List.Perm.cons k pm)
    have lk : es.size = ks.length := by
      rw [← Array.length_toList, ← pm.length_eq, List.length_map]
    have sz : es1.size = ks.length + 1 := by
      rw [← Array.length_toList, pc.length_eq, List.length_cons, Array.length_toList, lk]
    have led : w.params.followText "set-order" = true ∨ t1.led = true := hl.imp id fun z => by rw [p4]; exact z
    have fin : ∀ h', Heap.SameBut a s.heap h' → SetTx w h' a (k :: ks) → ∀ b, Q b { s with heap := h' } := fun h' sb r b => hQ b h' sb (by
      unfold putTx
      rw [if_neg nk]
      exact r)
    have ndk : (k :: ks).Nodup := List.nodup_cons.mpr ⟨nk, nd⟩
    refine wpAny_bind (way _ ?_)
    split
    · refine wpAny_bind ?_
      rw [hashByValue_scannable 8 (x := Value.str k tk) rfl]
      refine wpAny_pure ?_
      refine tx_laid ?_ ho hex hd g1 pk ndk (by rw [sz]; exact room) ?_ ?_ ?_ ?_
      · intro b s₁ Q' q
        cases b <;> first | exact wpAny_pure q | exact wpAny_rule q
      · first | (split <;> first | exact p2 | exact SetTable.fits_plain_off p2) | exact p2
      · first | (split <;> exact p3) | exact p3
      · first | (split <;> exact led) | exact led
      · intro h' sb r
        dsimp only
        exact wpAny_pure (fin h' sb r _)
    · refine wpAny_bind (wpAny_pure ?_)
      simp only [↓reduceIte]
      refine tx_laid ?_ ho hex hd g1 pk ndk (by rw [sz]; exact room) p2 p3 led ?_
      · intro b s₁ Q' q
        cases b <;> first | exact wpAny_pure q | exact wpAny_rule q
      · intro h' sb r
        dsimp only
        exact wpAny_pure (fin h' sb r _)
end
/-! the texts of a list or a tuple, one behind the other -/
def gotTx (xs : List Str) : List Str := xs.foldl putTx []
theorem putTx_mem {ks : List Str} {k x : Str} : x ∈ putTx ks k ↔ x = k ∨ x ∈ ks := by
  unfold putTx
  by_cases h : k ∈ ks
  · rw [if_pos h]
    exact ⟨.inr, fun z => z.elim (fun e => e ▸ h) id⟩
  · rw [if_neg h]
    exact List.mem_cons
theorem putTx_nodup {ks : List Str} {k : Str} (h : ks.Nodup) : (putTx ks k).Nodup := by
  unfold putTx
  by_cases c : k ∈ ks
  · rw [if_pos c]
    exact h
  · rw [if_neg c]
    exact List.nodup_cons.mpr ⟨c, h⟩
theorem putTx_len {ks : List Str} {k : Str} : (putTx ks k).length ≤ ks.length + 1 := by
  unfold putTx
  split
  · omega
  · rw [List.length_cons]
    exact Nat.le_refl _
theorem gotTx_snoc (xs : List Str) (k : Str) : gotTx (xs ++ [k]) = putTx (gotTx xs) k := by
  unfold gotTx
  rw [List.foldl_append]
  rfl
theorem gotTx_all : ∀ (xs : List Str) (ks : List Str), ks.Nodup → (xs.foldl putTx ks).Nodup ∧ (∀ x, x ∈ xs.foldl putTx ks ↔ x ∈ xs ∨ x ∈ ks) ∧ (xs.foldl putTx ks).length ≤ ks.length + xs.length
  | [], ks, h => ⟨h, fun x => ⟨.inr, fun z => z.elim (fun y => nomatch y) id⟩, Nat.le_refl _⟩
  | k :: xs, ks, h => by
    obtain ⟨h1, h2, h3⟩ := gotTx_all xs (putTx ks k) (putTx_nodup h)
    refine ⟨h1, fun x => ?_, ?_⟩
    · show x ∈ xs.foldl putTx (putTx ks k) ↔ _
      rw [h2 x, putTx_mem, List.mem_cons]
      constructor
      · rintro (z | z | z)
        · exact .inl (.inr z)
        · exact .inl (.inl z)
        · exact .inr z
      · rintro ((z | z) | z)
        · exact .inr (.inl z)
        · exact .inl z
        · exact .inr (.inr z)
    · have := putTx_len (ks := ks) (k := k)
      show (xs.foldl putTx (putTx ks k)).length ≤ _
      rw [List.length_cons]
      omega
theorem gotTx_nodup (xs : List Str) : (gotTx xs).Nodup := (gotTx_all xs [] List.nodup_nil).1
theorem gotTx_mem {xs : List Str} {x : Str} : x ∈ gotTx xs ↔ x ∈ xs := by
  have := (gotTx_all xs [] List.nodup_nil).2.1 x
  exact ⟨fun z => (this.mp z).elim id fun y => (by cases y), fun z => this.mpr (.inl z)⟩
theorem gotTx_len (xs : List Str) : (gotTx xs).length ≤ xs.length := by
  have := (gotTx_all xs [] List.nodup_nil).2.2
  rw [List.length_nil, Nat.zero_add] at this
  exact this
theorem tx_fresh {w : World} {h : Heap} {a : Addr} (ho : h.get? a = some { cls := .type "set", dict := none, data := .set #[] 0 (.fresh 0 0 (!w.params.followText "set-order")) }) : SetTx w h a [] := by
  refine ⟨_, #[], 0, _, ho, ⟨rfl, rfl, rfl⟩, rfl, fun e he => ?_, .nil, List.nodup_nil, by show 0 < scanBound; unfold scanBound; omega, rfl, List.Pairwise.nil, ?_⟩
  · cases he
  · show _ ∨ (!w.params.followText "set-order") = true
    cases w.params.followText "set-order"
    · exact .inr rfl
    · exact .inl rfl
section
variable {P : Program} {w : World} {A : Around} {R : Result → Shared → Prop} {I : Addr} {fp wr : List Addr} {G : Array GenState → Array GenState → Prop} {n : Nat} {Pv : Nat → Value → Prop} {St : Nat → Shared → Prop}
theorem tx_loop (W : WalksS P w A.in1 I fp wr G n Pv St) (S : Addr) (hSf : S ∉ fp) (xs : List Str) (hn : xs.length = n) (few : n + 1 < scanBound) (hval : ∀ i v, Pv i v → ∃ x t, xs[i]? = some x ∧ v = .str x t) :
    ∀ (k i : Nat) (s : Shared), n - i = k → i ≤ n → St i s → SetTx w s.heap S (gotTx (xs.take i)) →
      (∀ s', Moved (S :: wr) G s s' → SetTx w s'.heap S (gotTx xs) → R (.ok (.ret .none)) s') → codeAny (model P w) A (.builtin "set.update.loop" ⟨[.ref S, .ref I], []⟩) R s := by
  have nw : S ∉ wr := fun h => hSf (W.sub _ h)
  have sub : ∀ b ∈ wr, b ∈ S :: wr := fun b hb => List.mem_cons_of_mem _ hb
  intro k
  induction k with
  | zero =>
    intro i s hk hi hst hS hR
    have ei : i = n := by omega
    subst ei
    refine codeAny_builtin PyProof.Rows.F.entry_set_update_loop ?_
    rw [Around.under_plainId PyProof.Rows.F.plain_set_update_loop _]
    show wpAny _ A.in1 (pyNext (.ref I) >>= _) _ _ s
    refine wpAny_bind (W.done s _ _ hst fun s' mv => ?_)
    rw [← hn, List.take_length] at hS
    exact wpAny_pure (hR s' (mv.mono sub) (hS.keep fun o e => mv.heap S o nw e))
  | succ k ih =>
    intro i s hk hi hst hS hR
    have lt : i < n := by omega
    refine codeAny_builtin PyProof.Rows.F.entry_set_update_loop ?_
    rw [Around.under_plainId PyProof.Rows.F.plain_set_update_loop _]
    show wpAny _ A.in1 (pyNext (.ref I) >>= _) _ _ s
    refine wpAny_bind (W.item i s _ _ lt hst fun v s' hP st2 mv => ?_)
    obtain ⟨x, t, hx, rfl⟩ := hval i v hP
    have hS1 : SetTx w s'.heap S (gotTx (xs.take i)) := hS.keep fun o e => mv.heap S o nw e
    show wpAny _ A.in1 (holding [Value.str x t] (setAdd S (.str x t)) >>= _) _ _ s'
    refine wpAny_bind (wpAny_holding ?_)
    unfold setAdd
    refine wpAny_holding (wpAny_bind ((PySem.strKind P w).pyHash (k := x) (strKind_is _ _ _ _) ?_))
    have ll := gotTx_len (xs.take i)
    rw [List.length_take] at ll
    refine tx_add (s := { s' with toks := s'.toks + 1 }) hS1 (by omega) fun b h' sb hS2 => ?_
    have nx : putTx (gotTx (xs.take i)) x = gotTx (xs.take (i + 1)) := by
      rw [List.take_add_one, hx]
      exact (gotTx_snoc _ _).symm
    rw [nx] at hS2
    refine wpAny_pure ⟨plainId_quiet PyProof.Rows.F.plain_set_update_loop _, ih (i + 1) _ (by omega) lt (W.frame _ s' _ _ st2 (Nat.le_succ _) fun c hc o e => ?_) hS2 fun s2 mv2 hS3 => ?_⟩
    · exact (sb.2 c fun z => hSf (z ▸ hc)).trans e
    · refine hR s2 (Moved.trans W.gtrans ((mv.mono sub).then_heap (Nat.le_succ _) fun c o hc e => ?_) mv2) hS3
      exact (sb.2 c fun z => hc (z ▸ List.mem_cons_self)).trans e
end
theorem strs_nth : ∀ {vs : List Value} {xs : List Str}, PyProof.Rows.StrsAre vs xs → ∀ {i : Nat} {v : Value}, vs[i]? = some v → ∃ x t, xs[i]? = some x ∧ v = .str x t
  | _, _, .nil, i, v, e => by simp at e
  | _, _, .cons x t r, 0, v, e => ⟨x, t, rfl, (Option.some.inj e).symm⟩
  | _, _, .cons x t r, i + 1, v, e => strs_nth r (i := i) (by simpa using e)
theorem strs_len : ∀ {vs : List Value} {xs : List Str}, PyProof.Rows.StrsAre vs xs → vs.length = xs.length
  | _, _, .nil => rfl
  | _, _, .cons x t r => by rw [List.length_cons, List.length_cons, strs_len r]
section
variable {P : Program} {w : World} {A : Around} {E : Value → Shared → Prop} {s : Shared}
set_option maxRecDepth 100000 in
set_option maxHeartbeats 3200000 in
theorem tx_of_list {l : Addr} {items : Array Value} {xs : List Str} {Q : Value → Shared → Prop} (hh : A.handled = none) (hl : s.heap.IsList l items) (hi : PyProof.Rows.StrsAre items.toList xs) (few : xs.length + 1 < scanBound)
    (h : ∀ (h' : Heap) (tk : Nat), SetTx w h' s.heap.objs.size (gotTx xs) → (∀ b o, s.heap.get? b = some o → h'.get? b = some o) → Q (.ref s.heap.objs.size) { s with heap := h', toks := tk }) : wpAny (model P w) A (call (.type "set") [.ref l]) Q E s := by
  have nx : xs.length = items.size := by
    rw [← strs_len hi, Array.length_toList]
  obtain ⟨c, tl, hmro⟩ := PySem.F.called_set.mro
  have w1 := PySem.F.called_set.made
  have w2 := PySem.F.called_set.sub
  refine wpAny_call (codeAny_of_tree ?_)
  show wpAny _ _ (callAny (.type "set") _) _ _ _
  refine wpAny_pure ⟨Code.quiet_builtin _ (by decide +kernel), codeAny_builtin PySem.F.entry_type_call ?_⟩
  rw [Around.under_plain (weight_type_call_type "set" [.ref l] []) rfl]
  have w3 := PySem.F.called_set.notType
  have w4 := PySem.F.called_set.canCreate
  have w5 := PySem.F.typeCall_set_1 (.ref l)
  repeat (any_goals (first | assumption | wp_step))

  refine codeAny_mono (code_set_led1 (.ref l) (E := E) (Q₁ := fun obj s₁ => obj = .ref s.heap.objs.size ∧ s₁ = { s with heap := s.heap.push { cls := .type "set", dict := none, data := .set #[] 0 (.fresh 0 0 (!w.params.followText "set-order")) } }) ⟨rfl, rfl⟩) fun r s₁ hr => ?_
  cases r with
  | error e => exact hr
  | ok fl =>
    cases fl with
    | ret obj =>
      obtain ⟨rfl, rfl⟩ := hr
      have at0 : (s.heap.push { cls := .type "set", dict := none, data := .set #[] 0 (.fresh 0 0 (!w.params.followText "set-order")) }).get? s.heap.objs.size = some { cls := .type "set", dict := none, data := .set #[] 0 (.fresh 0 0 (!w.params.followText "set-order")) } := Heap.get?_push_size _ rfl
      have ty0 : Shared.TypeIs { s with heap := s.heap.push { cls := .type "set", dict := none, data := .set #[] 0 (.fresh 0 0 (!w.params.followText "set-order")) } } (.ref s.heap.objs.size) "set" := ⟨_, at0, rfl⟩
      have w6 := PySem.F.called_set.init.lookup
      have w7 := PySem.F.called_set.init.bind (.ref s.heap.objs.size)
      repeat (any_goals (first | assumption | wp_step))

      refine codeAny_mono (codeAny_call_builtin (R := wants (fun r s₂ => r = .none ∧ ∃ h' tk, s₂ = { s with heap := h', toks := tk } ∧ SetTx w h' s.heap.objs.size (gotTx xs) ∧ (∀ b o, s.heap.get? b = some o → h'.get? b = some o)) E) PySem.F.called_set.init.plain PySem.F.entry_set_init (check_set_init_1 ty0 ?_)) fun r₂ s₂ hr₂ => ?_
      · obtain ⟨ol, hol, hcl, nl, hdl⟩ := hl
        obtain ⟨ocls, odict, odata, oslots⟩ := ol
        simp only at hcl hdl
        subst hcl; subst hdl
        have hol' : (s.heap.push { cls := .type "set", dict := none, data := .set #[] 0 (.fresh 0 0 (!w.params.followText "set-order")) }).get? l = some { cls := .type "list", dict := odict, data := .seq items nl, slots := oslots } := Heap.get?_push_of_some _ hol
        have w8 := PySem.F.sub_list_set
        have w9 := PySem.F.sub_list_frozenset
        have w10 : (Value.type "list" == Value.type "dict") = false := by decide
        have hl1 : (s.heap.push { cls := .type "set", dict := none, data := .set #[] 0 (.fresh 0 0 (!w.params.followText "set-order")) }).IsList l items := ⟨_, hol', rfl, nl, rfl⟩
        unfold Builtin.«set.__init__» noKeywords Builtin.Frozenset.updateFrom
        generalize hPI : pyIter = PI
        wp_walk
        subst hPI

        refine wpAny_pyIter_list hl1 ?_
        refine wpAny_bind (wpAny_runValue ?_)
        have low : l < s.heap.objs.size := Heap.lt_size hol
        have h3 : A.in1.in1.in1.handled = none := by simp [hh]
        have sz : (s.heap.push { cls := .type "set", dict := none, data := .set #[] 0 (.fresh 0 0 (!w.params.followText "set-order")) }).objs.size = s.heap.objs.size + 1 := Heap.size_push ..
        refine tx_loop (w := w) ((Walks.list h3 _ l (by rw [sz]; exact Nat.ne_of_lt (Nat.lt_succ_of_lt low)) items).toS) s.heap.objs.size (fun hm => ?_) xs nx (by rw [← nx]; exact few) (fun i v hv => strs_nth hi (by rw [Array.getElem?_toList]; exact hv)) (items.size - 0) 0 _ (by omega) (Nat.zero_le _)
          ⟨⟨_, Heap.get?_push_size _ rfl, rfl, rfl⟩, (hl1.push _)⟩ (tx_fresh ?_) ?_
        · simp only [List.mem_cons, List.not_mem_nil, or_false, sz] at hm
          rcases hm with z | z
          · exact absurd z (Nat.ne_of_lt (Nat.lt_succ_self _))
          · exact absurd z (Nat.ne_of_gt low)
        · exact Heap.get?_push_of_some _ at0
        · intro s' mv hS'
          obtain ⟨h', g2, d', tk', os'⟩ := s'
          have eg : g2 = s.gens := mv.gens
          have ed : d' = s.drawn := mv.drawn
          have eo : os' = s.os := mv.os
          subst eg; subst ed; subst eo
          show wpAny _ _ _ _ _ _
          refine wpAny_pure ?_
          show wpAny _ _ (ret Value.none) _ _ _
          refine wpAny_pure ⟨rfl, h', tk', rfl, hS', fun b o e => mv.heap b o (fun hm => ?_) (Heap.get?_push_of_some _ (Heap.get?_push_of_some _ e))⟩
          have lb : b < s.heap.objs.size := Heap.lt_size e
          simp only [List.mem_cons, List.not_mem_nil, or_false, sz] at hm
          rcases hm with z | z
          · exact absurd z (Nat.ne_of_lt lb)
          · exact absurd z (Nat.ne_of_lt (Nat.lt_succ_of_lt lb))
      · cases r₂ with
        | error e => exact hr₂
        | ok fl₂ =>
          cases fl₂ with
          | ret r =>
            obtain ⟨rfl, h', tk, rfl, hS', hk'⟩ := hr₂
            repeat (any_goals (first | assumption | wp_step))
            exact h _ _ hS' hk'
          | _ => exact hr₂.elim
    | _ => exact hr.elim
end
section
variable {P : Program} {w : World} {A : Around} {E : Value → Shared → Prop} {s : Shared}
set_option maxRecDepth 100000 in
set_option maxHeartbeats 3200000 in
theorem tx_of_tuple {l : Addr} {items : Array Value} {xs : List Str} {Q : Value → Shared → Prop} (hh : A.handled = none) (hl : s.heap.IsTuple l items) (hi : PyProof.Rows.StrsAre items.toList xs) (few : xs.length + 1 < scanBound)
    (h : ∀ (h' : Heap) (tk : Nat), SetTx w h' s.heap.objs.size (gotTx xs) → (∀ b o, s.heap.get? b = some o → h'.get? b = some o) → Q (.ref s.heap.objs.size) { s with heap := h', toks := tk }) : wpAny (model P w) A (call (.type "set") [.ref l]) Q E s := by
  have nx : xs.length = items.size := by
    rw [← strs_len hi, Array.length_toList]
  obtain ⟨c, tl, hmro⟩ := PySem.F.called_set.mro
  have w1 := PySem.F.called_set.made
  have w2 := PySem.F.called_set.sub
  refine wpAny_call (codeAny_of_tree ?_)
  show wpAny _ _ (callAny (.type "set") _) _ _ _
  refine wpAny_pure ⟨Code.quiet_builtin _ (by decide +kernel), codeAny_builtin PySem.F.entry_type_call ?_⟩
  rw [Around.under_plain (weight_type_call_type "set" [.ref l] []) rfl]
  have w3 := PySem.F.called_set.notType
  have w4 := PySem.F.called_set.canCreate
  have w5 := PySem.F.typeCall_set_1 (.ref l)
  repeat (any_goals (first | assumption | wp_step))

  refine codeAny_mono (code_set_led1 (.ref l) (E := E) (Q₁ := fun obj s₁ => obj = .ref s.heap.objs.size ∧ s₁ = { s with heap := s.heap.push { cls := .type "set", dict := none, data := .set #[] 0 (.fresh 0 0 (!w.params.followText "set-order")) } }) ⟨rfl, rfl⟩) fun r s₁ hr => ?_
  cases r with
  | error e => exact hr
  | ok fl =>
    cases fl with
    | ret obj =>
      obtain ⟨rfl, rfl⟩ := hr
      have at0 : (s.heap.push { cls := .type "set", dict := none, data := .set #[] 0 (.fresh 0 0 (!w.params.followText "set-order")) }).get? s.heap.objs.size = some { cls := .type "set", dict := none, data := .set #[] 0 (.fresh 0 0 (!w.params.followText "set-order")) } := Heap.get?_push_size _ rfl
      have ty0 : Shared.TypeIs { s with heap := s.heap.push { cls := .type "set", dict := none, data := .set #[] 0 (.fresh 0 0 (!w.params.followText "set-order")) } } (.ref s.heap.objs.size) "set" := ⟨_, at0, rfl⟩
      have w6 := PySem.F.called_set.init.lookup
      have w7 := PySem.F.called_set.init.bind (.ref s.heap.objs.size)
      repeat (any_goals (first | assumption | wp_step))

      refine codeAny_mono (codeAny_call_builtin (R := wants (fun r s₂ => r = .none ∧ ∃ h' tk, s₂ = { s with heap := h', toks := tk } ∧ SetTx w h' s.heap.objs.size (gotTx xs) ∧ (∀ b o, s.heap.get? b = some o → h'.get? b = some o)) E) PySem.F.called_set.init.plain PySem.F.entry_set_init (check_set_init_1 ty0 ?_)) fun r₂ s₂ hr₂ => ?_
      · obtain ⟨ol, hol, hcl, nl, hdl⟩ := hl
        obtain ⟨ocls, odict, odata, oslots⟩ := ol
        simp only at hcl hdl
        subst hcl; subst hdl
        have hol' : (s.heap.push { cls := .type "set", dict := none, data := .set #[] 0 (.fresh 0 0 (!w.params.followText "set-order")) }).get? l = some { cls := .type "tuple", dict := odict, data := .seq items nl, slots := oslots } := Heap.get?_push_of_some _ hol
        have w8 := PySem.F.sub_tuple_set
        have w9 := PySem.F.sub_tuple_frozenset
        have w10 : (Value.type "tuple" == Value.type "dict") = false := by decide
        have hl1 : (s.heap.push { cls := .type "set", dict := none, data := .set #[] 0 (.fresh 0 0 (!w.params.followText "set-order")) }).IsTuple l items := ⟨_, hol', rfl, nl, rfl⟩
        unfold Builtin.«set.__init__» noKeywords Builtin.Frozenset.updateFrom
        generalize hPI : pyIter = PI
        wp_walk
        subst hPI

        refine wpAny_pyIter_tuple hl1 ?_
        refine wpAny_bind (wpAny_runValue ?_)
        have low : l < s.heap.objs.size := Heap.lt_size hol
        have h3 : A.in1.in1.in1.handled = none := by simp [hh]
        have sz : (s.heap.push { cls := .type "set", dict := none, data := .set #[] 0 (.fresh 0 0 (!w.params.followText "set-order")) }).objs.size = s.heap.objs.size + 1 := Heap.size_push ..
        refine tx_loop (w := w) ((Walks.tuple h3 _ l (by rw [sz]; exact Nat.ne_of_lt (Nat.lt_succ_of_lt low)) items).toS) s.heap.objs.size (fun hm => ?_) xs nx (by rw [← nx]; exact few) (fun i v hv => strs_nth hi (by rw [Array.getElem?_toList]; exact hv)) (items.size - 0) 0 _ (by omega) (Nat.zero_le _)
          ⟨⟨_, Heap.get?_push_size _ rfl, rfl, rfl⟩, (hl1.push _)⟩ (tx_fresh ?_) ?_
        · simp only [List.mem_cons, List.not_mem_nil, or_false, sz] at hm
          rcases hm with z | z
          · exact absurd z (Nat.ne_of_lt (Nat.lt_succ_self _))
          · exact absurd z (Nat.ne_of_gt low)
        · exact Heap.get?_push_of_some _ at0
        · intro s' mv hS'
          obtain ⟨h', g2, d', tk', os'⟩ := s'
          have eg : g2 = s.gens := mv.gens
          have ed : d' = s.drawn := mv.drawn
          have eo : os' = s.os := mv.os
          subst eg; subst ed; subst eo
          show wpAny _ _ _ _ _ _
          refine wpAny_pure ?_
          show wpAny _ _ (ret Value.none) _ _ _
          refine wpAny_pure ⟨rfl, h', tk', rfl, hS', fun b o e => mv.heap b o (fun hm => ?_) (Heap.get?_push_of_some _ (Heap.get?_push_of_some _ e))⟩
          have lb : b < s.heap.objs.size := Heap.lt_size e
          simp only [List.mem_cons, List.not_mem_nil, or_false, sz] at hm
          rcases hm with z | z
          · exact absurd z (Nat.ne_of_lt lb)
          · exact absurd z (Nat.ne_of_lt (Nat.lt_succ_of_lt lb))
      · cases r₂ with
        | error e => exact hr₂
        | ok fl₂ =>
          cases fl₂ with
          | ret r =>
            obtain ⟨rfl, h', tk, rfl, hS', hk'⟩ := hr₂
            repeat (any_goals (first | assumption | wp_step))
            exact h _ _ hS' hk'
          | _ => exact hr₂.elim
    | _ => exact hr.elim
end
/-! over the layer -/
def setTxO (w : World) (a : Addr) (ks : List Str) : HO := .ext fun h => SetTx w h a ks
theorem setTxO_ok {P : Program} {w : World} {H : Hp} {h : Heap} {a : Addr} {ks : List Str} (R : SetTx w h a ks) : ObjOk P w H h a (setTxO w a ks) := by
  refine ⟨R, ?_, fun h1 h2 y k => y.keep k⟩
  obtain ⟨o, _, _, _, e, _⟩ := R
  exact ⟨o, e⟩
theorem setTx_at {X : Cx} {pins : List (Addr × Obj)} {σ : L2.St} {H : Hp} {s : Shared} {a : Addr} {ks : List Str} (I : Inv X pins σ H s) (h : H a = some (setTxO X.w a ks)) : SetTx X.w s.heap a ks :=
  (show ObjOk X.prog X.w H s.heap a (setTxO X.w a ks) from I.hok a _ h).1
theorem list_of_strs {vs : List Value} (h : ∀ v ∈ vs, ∃ x t, v = Value.str x t) : ∃ xs, PyProof.Rows.StrsAre vs xs := by
  induction vs with
  | nil => exact ⟨[], .nil⟩
  | cons v vs ih =>
    obtain ⟨x, t, rfl⟩ := h v List.mem_cons_self
    obtain ⟨xs, hx⟩ := ih fun u hu => h u (List.mem_cons_of_mem _ hu)
    exact ⟨x :: xs, .cons x t hx⟩
def txOf (v : Value) : Str := match v with
  | .str k _ => k
  | _ => Str.empty
theorem strs_txOf : ∀ {vs : List Value} {xs : List Str}, PyProof.Rows.StrsAre vs xs → vs.map txOf = xs
  | _, _, .nil => rfl
  | _, _, .cons x t r => by
    rw [List.map_cons, strs_txOf r]
    rfl
section
variable {X : Cx}
def rSetTx (K : PySem.W.Frag) (w : World) : List V → Hp → VK → Prop := fun xs H Q => ∃ (l : Addr) (zs : List Str), xs = [.ref l] ∧ (SqL K H l (zs.map V.str) ∨ SqT K H l (zs.map V.str)) ∧ zs.length ≤ 1000 ∧ ∀ p, H p = none → Q (.ref p) (upd H p (setTxO w p (gotTx zs)))
theorem cr_setTx (hc : X.calm = true) : CallR X (.type "set") (rSetTx X.K X.w) := by
  intro pins s σ H xs us Q I r h
  obtain ⟨l, zs, rfl, hs, hz, q⟩ := h
  rw [Vals.ref1 r]
  have few : zs.length + 1 < scanBound := by
    unfold scanBound
    omega
  have fin : ∀ (h' : Heap) (tk : Nat), SetTx X.w h' s.heap.objs.size (gotTx zs) → (∀ b o, s.heap.get? b = some o → h'.get? b = some o) → EP X pins σ Q (.ref s.heap.objs.size) { s with heap := h', toks := tk } := fun h' tk R k =>
    ⟨.ref s.heap.objs.size, _, I.laid (a := s.heap.objs.size) (o := setTxO X.w s.heap.objs.size (gotTx zs)) (t' := tk) k (Nat.le_refl _) (setTxO_ok R), rfl, q _ (I.hok.fresh (Nat.le_refl _))⟩
  rcases hs with hs | hs
  · obtain ⟨its, rv, hl, _⟩ := I.list hs
    exact tx_of_list (items := its.toArray) (I.ok.hd hc) hl.isList (by simpa using rv.strs) few fin
  · obtain ⟨its, rv, ⟨o, e, c, n, d⟩, _⟩ := I.tuple hs
    exact tx_of_tuple (items := its.toArray) (I.ok.hd hc) ⟨o, e, c, n, d⟩ (by simpa using rv.strs) few fin
theorem cr_lenTx : CallR X (.builtin "len") (fun xs H Q => ∃ (a : Addr) (ks : List Str), xs = [.ref a] ∧ H a = some (setTxO X.w a ks) ∧ Q (.int ((ks.length : Nat) : Int)) H) := by
  intro pins s σ H xs us Q I r h
  obtain ⟨a, ks, rfl, ha, q⟩ := h
  rw [Vals.ref1 r]
  obtain ⟨o, es, ep, t, ho, hex, hd, g, pm, nd, hb, hf, hr, hl⟩ := setTx_at I ha
  have lk : es.size = ks.length := by
    rw [← Array.length_toList, ← pm.length_eq, List.length_map]
  refine call_len_set ho hex hd hf ?_ ?_
  · rw [lk] at hb ⊢
    unfold scanBound at hb
    omega
  · rw [lk]
    exact ⟨.int ((ks.length : Nat) : Int), H, I.tok _, ⟨_, rfl⟩, q⟩
def rSortTx (w : World) : List V → Hp → VK → Prop := fun vs H Q => ∃ (a : Addr) (ks : List Str), vs = [V.ref a] ∧ H a = some (setTxO w a ks) ∧ ks.length < 64 ∧
  ∀ (ys : List Str) (p : Addr), ys.Perm ks → sortedS ys = true → H p = none → Q (.ref p) (upd H p (.lst (ys.map V.str)))
theorem cr_sortTx (hc : X.calm = true) : CallR X (.builtin "sorted") (rSortTx X.w) := by
  intro pins s σ H vs us Q I r h
  obtain ⟨a, ks, rfl, ha, h64, q⟩ := h
  rw [Vals.ref1 r]
  obtain ⟨o, es, ep, t, ho, hex, hd, g, pm, nd, hb, hf, hr, hl⟩ := setTx_at I ha
  have lk : es.size = ks.length := by
    rw [← Array.length_toList, ← pm.length_eq, List.length_map]
  refine Calls.call_function_entry kind_sorted plain_sorted entry_sorted (args_sorted1 _) ?_
  unfold Builtin.«sorted»
  refine wpAny_bind (m := checkCount "sorted" 1 1 _) (wpAny_pure ?_)
  refine wpAny_bind (collect_set (A := X.A.in1) (I.ok.hd hc) ⟨o, ho, hex.1, hd⟩ hf hb hr hl fun s1 vs k1 hz g1 o1 pv => ?_)
  have lv : vs.length = ks.length := by
    rw [pv.length_eq, List.length_map, Array.length_toList]
    exact lk
  obtain ⟨xs, hxs⟩ := list_of_strs (vs := vs) fun v hv => by
    obtain ⟨e, he, z⟩ := List.mem_map.mp (pv.mem_iff.mp hv)
    obtain ⟨k, tk, h1, _⟩ := g e he
    exact ⟨k, tk, by rw [← z]; exact h1⟩
  have px : xs.Perm ks := by
    rw [← strs_txOf hxs]
    have z := pv.map txOf
    rw [List.map_map] at z
    exact z.trans pm
  refine wpAny_bind (wpAny_newList ?_ (by rw [lv, sizeLine_eq]; omega))
  have at1 : (s1.heap.push (seqObj "list" vs.toArray 0)).get? s1.heap.objs.size = some (seqObj "list" vs.toArray 0) := Heap.get?_push_size _ rfl
  refine wpAny_bind (wpAny_holding (wpAny_call_entry slot_list_sort ⟨_, at1, rfl⟩ entry_list_sort (list_sort_treeK strKind_oneLt at1 hxs.keysOf (fun v₁ v₂ rest e => keyKind_strs (by rw [← e]; exact hxs)) (by rw [lv]; exact h64) fun st' hp hs => ?_) (args_list_sort _)))
  obtain ⟨ys, b1, b2, b3⟩ := sorted_out_str hxs hp hs
  refine ⟨_, rfl, ?_⟩
  obtain ⟨c, at2⟩ := sortedHeap_at (vs := vs) (out := (arrOf st').map (·.2)) at1
  have old : ∀ b u, s.heap.get? b = some u → (sortedHeap (s1.heap.push (seqObj "list" vs.toArray 0)) s1.heap.objs.size vs ((arrOf st').map (·.2))).get? b = some u := fun b u e => by
    have z := k1 b u e
    have low := Heap.lt_size z
    rw [sortedHeap_old (Nat.ne_of_lt low) (by rw [Heap.size_push]; exact Nat.lt_succ_of_lt low)]
    exact Heap.get?_push_of_some _ z
  have ly : (ys.map V.str).length ≤ sizeLine := by
    rw [List.length_map, b2.length_eq, px.length_eq, sizeLine_eq]
    omega
  have hn : H s1.heap.objs.size = none := I.hok.fresh hz
  refine wpAny_pure ⟨_, rfl, ?_⟩
  have J : Inv X pins σ (upd H s1.heap.objs.size (.lst (ys.map V.str))) { s with heap := sortedHeap (s1.heap.push (seqObj "list" vs.toArray 0)) s1.heap.objs.size vs ((arrOf st').map (·.2)), gens := s1.gens, drawn := s1.drawn, toks := s1.toks } :=
    I.call (ch := []) (Un.laid old hz hn) (I.hok.laid old hz ⟨ly, ((arrOf st').map (·.2)).toList, c, vals_of_strs b1, at2⟩) (by rw [g1]; exact I.bare) (fun _ z => nomatch z)
  have e : ({ s1 with heap := sortedHeap (s1.heap.push (seqObj "list" vs.toArray 0)) s1.heap.objs.size vs ((arrOf st').map (·.2)) } : Shared) = { s with heap := sortedHeap (s1.heap.push (seqObj "list" vs.toArray 0)) s1.heap.objs.size vs ((arrOf st').map (·.2)), gens := s1.gens, drawn := s1.drawn, toks := s1.toks } := by
    cases s1
    cases s
    cases o1
    rfl
  show EP X pins σ Q (.ref s1.heap.objs.size) _
  rw [e]
  exact ⟨.ref _, _, J, rfl, q ys _ (b2.trans px) b3 hn⟩
end
/-! ### numbers -/
abbrev s_is_number : Stmt := top 9
abbrev N_is_number : List Str := ["thing"]
abbrev P_is_number : List Str := ["thing"]
theorem sc_is_number : FnScope N_is_number P_is_number (defScope s_is_number) := ⟨rfl, rfl, rfl, by decide +kernel, rfl, by decide +kernel, by decide +kernel⟩
def numB : PyData → Bool
  | .int i => decide (0 ≤ i)
  | _ => false
structure Nu (mg : Str → Option Value) : Prop where
  isinstance : mg "isinstance" = none
  int : mg "int" = none
  bool : mg "bool" = none
  tuple : mg "tuple" = none
  len : mg "len" = none
/-- the type of data -/
def tyD : PyData → String
  | .none => "NoneType"
  | .bool _ => "bool"
  | .int _ => "int"
  | .str _ => "str"
  | .list _ => "list"
  | .tuple _ => "tuple"
  | .dict _ => "dict"
theorem dp_tyD {K : PySem.W.Frag} {H : Hp} {v : V} {d : PyData} (h : Dp K H v d) : TyX K H v (.type (tyD d)) := by
  cases h with
  | non => exact .base .non
  | bl b => exact .base (.bl b)
  | int i => exact .base (.int i)
  | str z => exact .base (.str z)
  | lst h a => exact tyL h
  | tup h a => exact tyT h
def isT : PyData → Bool
  | .tuple _ => true
  | _ => false
def isI : PyData → Bool
  | .int _ => true
  | .bool _ => true
  | _ => false
def isB : PyData → Bool
  | .bool _ => true
  | _ => false
theorem kit_tup {K : PySem.W.Frag} {H : Hp} {v : V} {d : PyData} (h : Dp K H v d) : kitB (tyD d) "tuple" = some (isT d) := by
  cases h with
  | non => exact (show kitB "NoneType" "tuple" = some false by decide +kernel)
  | bl _ => exact (show kitB "bool" "tuple" = some false by decide +kernel)
  | int _ => exact (show kitB "int" "tuple" = some false by decide +kernel)
  | str _ => exact (show kitB "str" "tuple" = some false by decide +kernel)
  | lst _ _ => exact (show kitB "list" "tuple" = some false by decide +kernel)
  | tup _ _ => exact (show kitB "tuple" "tuple" = some true by decide +kernel)
theorem kit_intD {K : PySem.W.Frag} {H : Hp} {v : V} {d : PyData} (h : Dp K H v d) : kitB (tyD d) "int" = some (isI d) := by
  cases h with
  | non => exact (show kitB "NoneType" "int" = some false by decide +kernel)
  | bl _ => exact (show kitB "bool" "int" = some true by decide +kernel)
  | int _ => exact (show kitB "int" "int" = some true by decide +kernel)
  | str _ => exact (show kitB "str" "int" = some false by decide +kernel)
  | lst _ _ => exact (show kitB "list" "int" = some false by decide +kernel)
  | tup _ _ => exact (show kitB "tuple" "int" = some false by decide +kernel)
theorem kit_boolD {K : PySem.W.Frag} {H : Hp} {v : V} {d : PyData} (h : Dp K H v d) : kitB (tyD d) "bool" = some (isB d) := by
  cases h with
  | non => exact (show kitB "NoneType" "bool" = some false by decide +kernel)
  | bl _ => exact (show kitB "bool" "bool" = some true by decide +kernel)
  | int _ => exact (show kitB "int" "bool" = some false by decide +kernel)
  | str _ => exact (show kitB "str" "bool" = some false by decide +kernel)
  | lst _ _ => exact (show kitB "list" "bool" = some false by decide +kernel)
  | tup _ _ => exact (show kitB "tuple" "bool" = some false by decide +kernel)
def spIsNum (K : PySem.W.Frag) : Sp := fun vs H Q _ => ∃ (v : V) (d : PyData), vs = [v] ∧ Dp K H v d ∧ Q (.bl (numB d)) H
section
variable {P : Program} {w : World} {K : PySem.W.Frag} {mg : Str → Option Value} {base : Heap}
theorem ok_is_number (T : Nu mg) (D : Dd K mg "is_number" s_is_number P_is_number) : C8.Cal P w K mg base 1 "is_number" (spIsNum K) [] := by
  refine D.cal sc_is_number (fun vs H Q E h => ?_) (fun f cdv A outer s H vs Q E hr h => ?_)
  · obtain ⟨v, d, rfl, _⟩ := h
    rfl
  · obtain ⟨v, d, rfl, hd, q⟩ := h
    refine ⟨_, (pss_one (ps_ret (pe_and (pe_callB call_isi (by rfl) T.isinstance (by decide +kernel) (pa_cons (pv 0) (pa_cons (pe_bltn (v := .ty "int") rfl T.int (by decide +kernel) rfl) pa_nil))) (pe_and (pe_not (pe_callB call_isi (by rfl) T.isinstance (by decide +kernel) (pa_cons (pv 0) (pa_cons (pe_bltn (v := .ty "bool") rfl T.bool (by decide +kernel) rfl) pa_nil)))) (pe_one (pe_cmpR op_ge (pv 0) pe_int (nomark _))))))), ?_⟩
    refine ⟨_, rfl, v, .ty "int", .type (tyD d), .type "int", _, rfl, .ty "int", dp_tyD hd, kit_ty (kit_intD hd), _, rfl, ?_⟩
    cases hd with
    | int i =>
      refine iteT ?_
      refine ⟨_, rfl, .int i, .ty "bool", .type "int", .type "bool", false, rfl, .ty "bool", .base (.int i), kit_ty (by decide +kernel), _, rfl, _, rfl, iteT ?_⟩
      exact ⟨_, rfl, _, _, rfl, rfl, q⟩
    | bl b =>
      refine iteT ?_
      exact ⟨_, rfl, .bl b, .ty "bool", .type "bool", .type "bool", true, rfl, .ty "bool", .base (.bl b), kit_ty (by decide +kernel), _, rfl, _, rfl, iteF q⟩
    | non => exact iteF q
    | str z => exact iteF q
    | lst h a => exact iteF q
    | tup h a => exact iteF q
end
/-! ### what the words of a grammar's check answer, where all is well -/
abbrev s_is_worth : Stmt := top 10
abbrev N_is_worth : List Str := ["thing"]
abbrev P_is_worth : List Str := ["thing"]
theorem sc_is_worth : FnScope N_is_worth P_is_worth (defScope s_is_worth) := ⟨rfl, rfl, rfl, by decide +kernel, rfl, by decide +kernel, by decide +kernel⟩
abbrev s_is_name : Stmt := top 11
abbrev N_is_name : List Str := ["thing", "sign"]
abbrev P_is_name : List Str := ["thing"]
theorem sc_is_name : FnScope N_is_name P_is_name (defScope s_is_name) := ⟨rfl, rfl, rfl, by decide +kernel, rfl, by decide +kernel, by decide +kernel⟩
abbrev s_is_tuple_of : Stmt := top 12
abbrev N_is_tuple_of : List Str := ["thing", "many"]
abbrev P_is_tuple_of : List Str := ["thing", "many"]
theorem sc_is_tuple_of : FnScope N_is_tuple_of P_is_tuple_of (defScope s_is_tuple_of) := ⟨rfl, rfl, rfl, by decide +kernel, rfl, by decide +kernel, by decide +kernel⟩
abbrev s_is_op : Stmt := top 22
abbrev N_is_op : List Str := ["thing"]
abbrev P_is_op : List Str := ["thing"]
theorem sc_is_op : FnScope N_is_op P_is_op (defScope s_is_op) := ⟨rfl, rfl, rfl, by decide +kernel, rfl, by decide +kernel, by decide +kernel⟩
abbrev s_parts_of : Stmt := top 23
abbrev N_parts_of : List Str := ["op"]
abbrev P_parts_of : List Str := ["op"]
theorem sc_parts_of : FnScope N_parts_of P_parts_of (defScope s_parts_of) := ⟨rfl, rfl, rfl, by decide +kernel, rfl, by decide +kernel, by decide +kernel⟩
abbrev s_op_let : Stmt := top 24
abbrev N_op_let : List Str := ["op", "cap"]
abbrev P_op_let : List Str := ["op", "cap"]
theorem sc_op_let : FnScope N_op_let P_op_let (defScope s_op_let) := ⟨rfl, rfl, rfl, by decide +kernel, rfl, by decide +kernel, by decide +kernel⟩
abbrev s_rows_of : Stmt := top 30
abbrev N_rows_of : List Str := ["part", "rows"]
abbrev P_rows_of : List Str := ["part", "rows"]
theorem sc_rows_of : FnScope N_rows_of P_rows_of (defScope s_rows_of) := ⟨rfl, rfl, rfl, by decide +kernel, rfl, by decide +kernel, by decide +kernel⟩
abbrev s_cap_in : Stmt := top 31
abbrev N_cap_in : List Str := ["cap"]
abbrev P_cap_in : List Str := ["cap"]
theorem sc_cap_in : FnScope N_cap_in P_cap_in (defScope s_cap_in) := ⟨rfl, rfl, rfl, by decide +kernel, rfl, by decide +kernel, by decide +kernel⟩
def LETS : Str := "abcdefghijklmnopqrstuvwxyz"
theorem lets_has (c : Nat) : decide (c ∈ LETS.cps.toList) = isLet c := by
  have e : LETS.cps.toList = [97, 98, 99, 100, 101, 102, 103, 104, 105, 106, 107, 108, 109, 110, 111, 112, 113, 114, 115, 116, 117, 118, 119, 120, 121, 122] := by decide +kernel
  rw [e]
  unfold isLet
  rw [Bool.eq_iff_iff]
  simp only [List.mem_cons, List.not_mem_nil, or_false, decide_eq_true_eq, Bool.and_eq_true]
  omega
inductive Op where
  | copy | plus | less | times | over | rest | least | most | same | under | pick
  deriving DecidableEq
def Op.w : Op → Str
  | .copy => "copy"
  | .plus => "plus"
  | .less => "less"
  | .times => "times"
  | .over => "over"
  | .rest => "rest"
  | .least => "least"
  | .most => "most"
  | .same => "same"
  | .under => "under"
  | .pick => "pick"
def Op.n : Op → Nat
  | .copy => 1
  | .pick => 3
  | _ => 2
def fineb : Op → Bool
  | .copy => true
  | .plus => true
  | .least => true
  | .most => true
  | _ => false
theorem in_let (o : Op) : inV (.str o.w) [.str "copy", .str "plus", .str "least", .str "most"] = fineb o := by cases o <;> decide +kernel
structure DdK (K : PySem.W.Frag) (mg : Str → Option Value) (x : Str) (st : Stmt) (kws : List (Str × V)) : Prop where
  ex : ∃ (f : Addr) (fd : FuncData), FunD K x x (defArgs st) (defBody st) (defScope st) [] kws f fd ∧ mg x = some (.ref f)
/-- the table of ops, in the written part -/
structure PartsAt (K : PySem.W.Frag) (w : World) (PD : Addr) : Prop where
  kd : ∃ es n, KDict K w PD es n
  ops : ∀ o : Op, KDct K w PD o.w (.int o.n) ∧ ∃ u, PySem.W.nsIn K PD o.w = some (some u)
structure Gb (mg : Str → Option Value) : Prop where
  isinstance : mg "isinstance" = none
  int : mg "int" = none
  bool : mg "bool" = none
  str : mg "str" = none
  tuple : mg "tuple" = none
  list : mg "list" = none
  len : mg "len" = none
  all : mg "all" = none
  set : mg "set" = none
  sorted : mg "sorted" = none
  enumerate : mg "enumerate" = none
structure Gg (mg : Str → Option Value) (PD LA : Addr) : Prop where
  bound : ∃ u, mg "BOUND" = some u ∧ RelV (.int 1000000) u
  signs : ∃ u, mg "SIGNS" = some u ∧ RelV (.int 6) u
  letters : ∃ u, mg "LETTERS" = some u ∧ RelV (.str LETS) u
  cap : ∃ u, mg "CAP" = some u ∧ RelV (.int 9) u
  sorts : ∃ u, mg "SORTS" = some u ∧ RelV (.int 4) u
  makings : ∃ u, mg "MAKINGS" = some u ∧ RelV (.int 8) u
  each : ∃ u, mg "EACH" = some u ∧ RelV (.int 2) u
  parts : mg "PARTS" = some (.ref PD)
  let_ : mg "LET" = some (.ref LA)
def worthB : PyData → Bool
  | .int i => decide (0 ≤ i) && decide (i < 1000000)
  | _ => false
def tupN (n : Nat) : PyData → Bool
  | .tuple ds => decide (ds.length = n)
  | _ => false
def spWorth (K : PySem.W.Frag) : Sp := fun vs H Q _ => ∃ (v : V) (d : PyData), vs = [v] ∧ Dp K H v d ∧ Q (.bl (worthB d)) H
def spNameT : Sp := fun vs H Q _ => ∃ w : List Nat, vs = [.str (SX.S w)] ∧ NmOk w ∧ ∀ H', Same H H' → Q (.bl true) H'
def spTupOf (K : PySem.W.Frag) : Sp := fun vs H Q _ => ∃ (v : V) (d : PyData) (n : Nat), vs = [v, .int n] ∧ Dp K H v d ∧ Q (.bl (tupN n d)) H
def spOpT : Sp := fun vs H Q _ => ∃ o : Op, vs = [.str o.w] ∧ Q (.bl true) H
def spPartsT : Sp := fun vs H Q _ => ∃ o : Op, vs = [.str o.w] ∧ Q (.int (o.n : Nat)) H
def spLetT : Sp := fun vs H Q _ => ∃ (o : Op) (c : Nat), vs = [.str o.w, .int c] ∧ (c = 0 ∨ fineb o = true) ∧ Q (.bl true) H
def spRows : Sp := fun vs H Q _ => ∃ (z : Str) (l : Addr) (xs : List V), vs = [.str z, .ref l] ∧ H l = some (.lst xs) ∧ Q (.ref l) H
def spCap : Sp := fun vs H Q _ => ∃ c : Nat, vs = [.int c] ∧ c ≤ 9 ∧ Q (.int c) H
section
variable {P : Program} {w : World} {K : PySem.W.Frag} {mg : Str → Option Value} {base : Heap} {PD LA : Addr}
theorem ok_is_worth (T : Gb mg) (G : Gg mg PD LA) (cis_number : C8.Cal P w K mg base 1 "is_number" (spIsNum K) []) (D : Dd K mg "is_worth" s_is_worth P_is_worth) : C8.Cal P w K mg base 2 "is_worth" (spWorth K) [] := by
  refine D.cal sc_is_worth (fun vs H Q E h => ?_) (fun f cdv A outer s H vs Q E hr h => ?_)
  · obtain ⟨v, d, rfl, _⟩ := h
    rfl
  · obtain ⟨v, d, rfl, hd, q⟩ := h
    refine ⟨_, (pss_one (ps_ret (pe_and (C8.pe_c cis_number hr (by decide) (by rfl) (pa_cons (pv 0) pa_nil)) (pe_one (pe_cmpR op_lt (pv 0) (C8.pe_gc (v := .int 1000000) rfl G.bound) (nomark _)))))), ?_⟩
    refine ⟨_, rfl, v, d, rfl, hd, _, rfl, ?_⟩
    cases hd with
    | int i =>
      by_cases h0 : 0 ≤ i
      · refine ifT (decide_eq_true h0) ?_
        refine ⟨_, rfl, _, _, rfl, rfl, ?_⟩
        have e : worthB (.int i) = decide (i < 1000000) := by
          show (decide (0 ≤ i) && decide (i < 1000000)) = _
          rw [decide_eq_true h0]
          rfl
        rw [e] at q
        exact q
      · refine ifF (decide_eq_false h0) ?_
        have e : worthB (.int i) = false := by
          show (decide (0 ≤ i) && decide (i < 1000000)) = false
          rw [decide_eq_false h0]
          rfl
        rw [e] at q
        exact q
    | bl b => exact iteF q
    | non => exact iteF q
    | str z => exact iteF q
    | lst h a => exact iteF q
    | tup h a => exact iteF q
theorem ok_is_nameT (T : Gb mg) (G : Gg mg PD LA) (D : Dd K mg "is_name" s_is_name P_is_name) : C8.Cal P w K mg base 1 "is_name" spNameT [] := by
  refine D.cal sc_is_name (fun vs H Q E h => ?_) (fun f cdv A outer s H vs Q E hr h => ?_)
  · obtain ⟨w, rfl, _⟩ := h
    rfl
  · obtain ⟨w, rfl, ⟨⟨h2, h3, hlet⟩, h1⟩, q⟩ := h
    have hl2 : (SX.S w).length ≤ sizeLine := by
      rw [SX.S_len]
      exact Nat.le_trans h3 (by decide)
    refine ⟨_, (pss_cons (ps_if (PW.pt (pw_or (pt_not (pt_val (pe_callB call_isi (by rfl) T.isinstance (by decide +kernel) (pa_cons (pv 0) (pa_cons (pe_bltn (v := .ty "str") rfl T.str (by decide +kernel) rfl) pa_nil))))) (pw_or (pt_cmpR op_eq (pv 0) pe_str (nomark _)) (pw_or1 (pt_not (pt_chain op_le op_le pe_int (pe_callB call_len_str (by rfl) T.len PySem.boot_len (pa_cons (pv 0) pa_nil)) (C8.pe_gc (v := .int 6) rfl G.signs)))))))
          (pss_one (ps_ret pe_bl))
          pss_nil)
        (pss_one (ps_ret (pe_callB (cr_all rfl) (by rfl) T.all (by decide +kernel) (pa_cons (pe_lc (own := [("sign", 1)]) (by exact rfl) sc_is_name.nd (pi_str (pv 0)) (blkOk_by (own := [("sign", 1)]) (N := N_is_name) (sc := defScope s_is_name) (by decide +kernel)) (fun _ _ _ _ _ => (pg_name (i := 1) sc_is_name.nd rfl (Or.inl rfl))) (fun _ _ _ _ _ => pts_nil) (fun _ _ _ _ _ => (pe_cmpR op_in_sign (pv 1) (C8.pe_gc (v := .str LETS) rfl G.letters) (by with_unfolding_all rfl)))) pa_nil))))), ?_⟩
    refine ⟨_, rfl, .str (SX.S w), .ty "str", .type "str", .type "str", true, rfl, .ty "str", .base (.str _), kit_ty (by decide +kernel), _, rfl, iteF ?_⟩
    refine ⟨_, rfl, rfl, _, rfl, ?_⟩
    rw [s_own]
    refine ifF (decide_eq_false (fun z => h1 (SX.S_inj (V.str.inj z)))) ?_
    refine ⟨_, rfl, _, rfl, hl2, _, _, rfl, rfl, _, rfl, ifT (decide_eq_true (by rw [SX.S_len]; omega)) ?_⟩
    refine ⟨_, _, rfl, rfl, _, rfl, ?_⟩
    rw [decide_eq_true (show ((SX.S w).length : Int) ≤ 6 by rw [SX.S_len]; omega)]
    refine iteF ?_
    refine ⟨_, rfl, _, rfl, fun D nD => ?_⟩
    refine lc_it walk_str (fun j H' => Same H H' ∧ H' D = some (.lst (((w.take j).map isLet).map V.bl))) ⟨same_upd nD, upd_same⟩ (fun _ _ _ _ => trivial) ?_ ?_
    · rintro j v H3 H4 hj ⟨sm, hD⟩ ⟨rfl, c, hc, rfl⟩
      have hc : w[j]? = some c := by
        have : w.toArray[j]? = some c := hc
        rw [List.getElem?_toArray] at this
        exact this
      refine ⟨rfl, yesT ?_⟩
      refine ⟨_, rfl, c, LETS, rfl, rfl, ?_⟩
      rw [lets_has]
      refine ⟨_, hD, by rw [List.length_map, List.length_map, List.length_take]; exact small1000 (by omega), Same.at_ sm nD, ?_⟩
      rw [upd_same, List.take_add_one, hc]
      simp
    · rintro H3 ⟨sm, hD⟩
      have e0 : (SX.S w).cps.size = w.length := List.size_toArray
      rw [e0, List.take_length] at hD
      refine ⟨D, _, rfl, SqL.of hD, ?_⟩
      have e : (w.map isLet).all id = true := by
        rw [List.all_map]
        exact List.all_eq_true.mpr hlet
      rw [e]
      exact q _ sm
theorem ok_is_tuple_of (T : Gb mg) (D : Dd K mg "is_tuple_of" s_is_tuple_of P_is_tuple_of) : C8.Cal P w K mg base 1 "is_tuple_of" (spTupOf K) [] := by
  refine D.cal sc_is_tuple_of (fun vs H Q E h => ?_) (fun f cdv A outer s H vs Q E hr h => ?_)
  · obtain ⟨v, d, n, rfl, _⟩ := h
    rfl
  · obtain ⟨v, d, n, rfl, hd, q⟩ := h
    refine ⟨_, (pss_one (ps_ret (pe_and (pe_callB call_isi (by rfl) T.isinstance (by decide +kernel) (pa_cons (pv 0) (pa_cons (pe_bltn (v := .ty "tuple") rfl T.tuple (by decide +kernel) rfl) pa_nil))) (pe_one (pe_cmpR op_eq (pe_callB call_len_seq (by rfl) T.len PySem.boot_len (pa_cons (pv 0) pa_nil)) (pv 1) (nomark _)))))), ?_⟩
    refine ⟨_, rfl, v, .ty "tuple", .type (tyD d), .type "tuple", _, rfl, .ty "tuple", dp_tyD hd, kit_ty (kit_tup hd), _, rfl, ?_⟩
    cases hd with
    | tup h a =>
      refine iteT ?_
      refine ⟨_, rfl, _, _, rfl, .inr h, _, rfl, rfl, ?_⟩
      rw [dpAll_len a]
      rename_i ds
      have e : tupN n (.tuple ds) = decide (V.int ((ds.length : Nat) : Int) = V.int (n : Int)) := by
        show decide (ds.length = n) = _
        rw [Bool.eq_iff_iff, decide_eq_true_eq, decide_eq_true_eq]
        exact ⟨fun z => by rw [z], fun z => Int.ofNat.inj (V.int.inj z)⟩
      rw [e] at q
      exact q
    | bl b => exact iteF q
    | non => exact iteF q
    | str z => exact iteF q
    | int z => exact iteF q
    | lst h a => exact iteF q
theorem ok_is_op (T : Gb mg) (G : Gg mg PD LA) (A : PartsAt K w PD) (D : Dd K mg "is_op" s_is_op P_is_op) : C8.Cal P w K mg base 1 "is_op" spOpT [] := by
  obtain ⟨es, n, kd⟩ := A.kd
  refine D.cal sc_is_op (fun vs H Q E h => ?_) (fun f cdv A' outer s H vs Q E hr h => ?_)
  · obtain ⟨o, rfl, _⟩ := h
    rfl
  · obtain ⟨o, rfl, q⟩ := h
    refine ⟨_, (pss_one (ps_ret (pe_and (pe_callB call_isi (by rfl) T.isinstance (by decide +kernel) (pa_cons (pv 0) (pa_cons (pe_bltn (v := .ty "str") rfl T.str (by decide +kernel) rfl) pa_nil))) (pe_one (pe_cmpR (op_in_kd kd) (pv 0) (pe_glob (v := .ref PD) rfl G.parts rfl) (by with_unfolding_all rfl)))))), ?_⟩
    refine ⟨_, rfl, .str o.w, .ty "str", .type "str", .type "str", true, rfl, .ty "str", .base (.str o.w), kit_ty (by decide +kernel), true, rfl, iteT ?_⟩
    obtain ⟨u, hu⟩ := (A.ops o).2
    exact ⟨_, rfl, o.w, some u, rfl, rfl, hu, q⟩
theorem ok_parts_of (G : Gg mg PD LA) (A : PartsAt K w PD) (cis_op : C8.Cal P w K mg base 1 "is_op" spOpT []) (D : Dd K mg "parts_of" s_parts_of P_parts_of) : C8.Cal P w K mg base 2 "parts_of" spPartsT [] := by
  refine D.cal sc_parts_of (fun vs H Q E h => ?_) (fun f cdv A' outer s H vs Q E hr h => ?_)
  · obtain ⟨o, rfl, _⟩ := h
    rfl
  · obtain ⟨o, rfl, q⟩ := h
    refine ⟨_, (pss_cons (ps_if (pt_not (pt_val (C8.pe_c cis_op hr (by decide) (by rfl) (pa_cons (pv 0) pa_nil))))
          (pss_one ps_never)
          pss_nil)
        (pss_one (ps_ret (pe_ix ix_kdict (pe_glob (v := .ref PD) rfl G.parts rfl) (pv 0) (fun _ _ => rfl))))), ?_⟩
    refine ⟨_, rfl, o, rfl, _, rfl, iteF ?_⟩
    exact ⟨_, rfl, PD, _, _, rfl, rfl, (A.ops o).1, q⟩
theorem ok_op_letT (G : Gg mg PD LA) (hL : ∀ H, SqT K H LA [.str "copy", .str "plus", .str "least", .str "most"]) (cis_op : C8.Cal P w K mg base 1 "is_op" spOpT []) (D : DdK K mg "op_let" s_op_let [("cap", .int 0)]) : KCal P w K mg base 2 "op_let" spLetT 1 ["cap"] (fun vs zs => vs ++ zs) := by
  obtain ⟨f, fd, F, g⟩ := D.ex
  have ok : FnOk P w K mg base CX0 2 f fd P_op_let spLetT := by
    refine F.ok sc_op_let (fun vs H Q E h => ?_) (fun cdv A outer s H vs Q E hr h => ?_)
    · obtain ⟨o, c, rfl, _⟩ := h
      rfl
    · obtain ⟨o, c, rfl, hc, q⟩ := h
      refine ⟨_, (pss_cons (ps_if (pt_cmpR op_eq (pv 1) pe_int (nomark _))
            (pss_one (ps_ret (C8.pe_c cis_op hr (by decide) (by rfl) (pa_cons (pv 0) pa_nil))))
            pss_nil)
          (pss_one (ps_ret (pe_cmpR op_in_seq (pv 0) (pe_glob (v := .ref LA) rfl G.let_ rfl) (by with_unfolding_all rfl))))), ?_⟩
      by_cases e : c = 0
      · subst e
        refine ⟨_, rfl, rfl, _, rfl, ifT rfl ?_⟩
        exact ⟨_, rfl, o, rfl, q⟩
      · refine ⟨_, rfl, rfl, _, rfl, ifF (by rw [decide_eq_false]; intro z; have := V.int.inj z; omega) ?_⟩
        refine ⟨_, rfl, LA, _, rfl, .inr (hL H), rfl, rfl, ?_⟩
        show Q (.bl (inV (.str o.w) [.str "copy", .str "plus", .str "least", .str "most"])) H
        rw [in_let, hc.resolve_left e]
        exact q
  have hk1 := kbindsN (ps := P_op_let) F 1 ["cap"] (fun us ws => us ++ ws) (fun h2 h3 => Vals.append h2 h3) (fun kV doc pm an cdv ct us ws hl hw => match us, ws, hl, hw with
    | [_], [_], _, _ => rfl)
  exact ⟨f, fd, _, _, ok, g, F.kp, hk1⟩
theorem ok_rows_of (T : Gb mg) (D : Dd K mg "rows_of" s_rows_of P_rows_of) : C8.Cal P w K mg base 1 "rows_of" spRows [] := by
  refine D.cal sc_rows_of (fun vs H Q E h => ?_) (fun f cdv A outer s H vs Q E hr h => ?_)
  · obtain ⟨z, l, xs, rfl, _⟩ := h
    rfl
  · obtain ⟨z, l, xs, rfl, hl, q⟩ := h
    refine ⟨_, (pss_cons (ps_if (pt_not (pt_val (pe_callB call_isi (by rfl) T.isinstance (by decide +kernel) (pa_cons (pv 1) (pa_cons (pe_bltn (v := .ty "list") rfl T.list (by decide +kernel) rfl) pa_nil)))))
          (pss_one ps_never)
          pss_nil)
        (pss_one (ps_ret (pv 1)))), ?_⟩
    refine ⟨_, rfl, .ref l, .ty "list", .type "list", .type "list", true, rfl, .ty "list", tyL (SqL.of hl), kit_ty (by decide +kernel), _, rfl, iteF ?_⟩
    exact ⟨_, rfl, q⟩
theorem ok_cap_in (T : Gb mg) (G : Gg mg PD LA) (cis_number : C8.Cal P w K mg base 1 "is_number" (spIsNum K) []) (D : Dd K mg "cap_in" s_cap_in P_cap_in) : C8.Cal P w K mg base 2 "cap_in" spCap [] := by
  refine D.cal sc_cap_in (fun vs H Q E h => ?_) (fun f cdv A outer s H vs Q E hr h => ?_)
  · obtain ⟨c, rfl, _⟩ := h
    rfl
  · obtain ⟨c, rfl, hc, q⟩ := h
    refine ⟨_, (pss_cons (ps_if (PW.pt (pw_or (pt_not (pt_val (C8.pe_c cis_number hr (by decide) (by rfl) (pa_cons (pv 0) pa_nil)))) (pw_or1 (pt_cmpR op_gt (pv 0) (C8.pe_gc (v := .int 9) rfl G.cap) (nomark _)))))
          (pss_one ps_never)
          pss_nil)
        (pss_one (ps_ret (pv 0)))), ?_⟩
    refine ⟨_, rfl, _, .int c, rfl, .int _, _, rfl, ?_⟩
    refine ifF (by show (!decide ((0 : Int) ≤ (c : Int))) = false; rw [decide_eq_true (by omega)]; rfl) ?_
    refine ⟨_, rfl, _, _, rfl, rfl, _, rfl, ?_⟩
    refine ifF (decide_eq_false (show ¬ (9 : Int) < (c : Int) by omega)) ?_
    exact ⟨_, rfl, q⟩
end
abbrev s_are_names : Stmt := top 32
abbrev N_are_names : List Str := ["thing", "part"]
abbrev P_are_names : List Str := ["thing"]
theorem sc_are_names : FnScope N_are_names P_are_names (defScope s_are_names) := ⟨rfl, rfl, rfl, by decide +kernel, rfl, by decide +kernel, by decide +kernel⟩
abbrev s_sort_stands : Stmt := top 33
abbrev N_sort_stands : List Str := ["row", "sorts", "sort", "downs", "ups"]
abbrev P_sort_stands : List Str := ["row", "sorts"]
theorem sc_sort_stands : FnScope N_sort_stands P_sort_stands (defScope s_sort_stands) := ⟨rfl, rfl, rfl, by decide +kernel, rfl, by decide +kernel, by decide +kernel⟩
abbrev s_sorts_in : Stmt := top 34
abbrev N_sorts_in : List Str := ["rows", "sorts", "number", "row"]
abbrev P_sorts_in : List Str := ["rows"]
theorem sc_sorts_in : FnScope N_sorts_in P_sorts_in (defScope s_sorts_in) := ⟨rfl, rfl, rfl, by decide +kernel, rfl, by decide +kernel, by decide +kernel⟩
theorem sqT_s {K : PySem.W.Frag} {H H' : Hp} {a : Addr} {xs : List V} (s : Same H H') (h : SqT K H a xs) : SqT K H' a xs := KeepT.seqT (KeepT.of s) h
/-- a table of rows -/
def Tab (K : PySem.W.Frag) (H : Hp) (kvs : List (Key × V)) (ts : List T3) : Prop := Paired (fun kv t => kv.1 = kS t.k ∧ Dp K H kv.2 t.r) kvs ts
theorem Tab.len {K : PySem.W.Frag} {H : Hp} {kvs : List (Key × V)} {ts : List T3} (h : Tab K H kvs ts) : kvs.length = ts.length := paired_len h
theorem Tab.none {K : PySem.W.Frag} {H : Hp} {k : List Nat} : ∀ {kvs : List (Key × V)} {ts : List T3}, Tab K H kvs ts → k ∉ ts.map T3.k → valV kvs (kS k) = none
  | _, _, .nil, _ => rfl
  | _, _, .cons a r, h => by
    rw [List.map_cons, List.mem_cons] at h
    rw [valV_neg (fun z => h (.inl (kS_inj (z.symm.trans a.1))))]
    exact Tab.none r fun z => h (.inr z)
theorem Tab.val {K : PySem.W.Frag} {H : Hp} {t : T3} : ∀ {kvs : List (Key × V)} {ts : List T3}, Tab K H kvs ts → (ts.map T3.k).Nodup → t ∈ ts → ∃ v, valV kvs (kS t.k) = some v ∧ Dp K H v t.r
  | _, _, .nil, _, h => nomatch h
  | _, _, .cons (a := kv) (b := t0) a r, hn, h => by
    rw [List.map_cons, List.nodup_cons] at hn
    rcases List.mem_cons.mp h with rfl | h
    · exact ⟨_, valV_pos a.1, a.2⟩
    · rw [valV_neg (fun z => hn.1 (by rw [← kS_inj (z.symm.trans a.1)]; exact List.mem_map_of_mem h))]
      exact Tab.val r hn.2 h
theorem Tab.any {K : PySem.W.Frag} {H : Hp} {k : List Nat} : ∀ {kvs : List (Key × V)} {ts : List T3}, Tab K H kvs ts → k ∉ ts.map T3.k → (kvs.any fun kv => decide (kv.1 = kS k)) = false
  | _, _, .nil, _ => rfl
  | _, _, .cons a r, h => by
    rw [List.map_cons, List.mem_cons] at h
    rw [List.any_cons, decide_eq_false (fun z => h (.inl (kS_inj (z.symm.trans a.1))))]
    exact Tab.any r fun z => h (.inr z)
theorem Tab.put {K : PySem.W.Frag} {H : Hp} {t : T3} {kvs : List (Key × V)} {ts : List T3} {v : V} (h : Tab K H kvs ts) (hn : t.k ∉ ts.map T3.k) (hv : Dp K H v t.r) : Tab K H (putK kvs (kS t.k) v) (ts ++ [t]) := by
  unfold putK
  rw [h.any hn]
  exact paired_snoc h ⟨rfl, hv⟩
theorem Tab.keep {K : PySem.W.Frag} {H H' : Hp} (k : KeepT H H') {kvs : List (Key × V)} {ts : List T3} (h : Tab K H kvs ts) (hi : ∀ t ∈ ts, imm t.r = true) : Tab K H' kvs ts := by
  unfold Tab at *
  induction h with
  | nil => exact .nil
  | cons a r ih => exact .cons ⟨a.1, dp_imm k a.2 (hi _ (List.mem_cons_self ..))⟩ (ih fun t ht => hi t (List.mem_cons_of_mem _ ht))
theorem sT_imm (r : SRow) : imm (sT r).r = true := up_imm r
theorem mT_imm (r : MRow) : imm (mT r).r = true := by
  show (true && (immAll (r.pt.map strD) && true)) = true
  rw [immAll_map strD_imm]
  rfl
/-- a row of a sort on the heap -/
theorem s_at {K : PySem.W.Frag} {H : Hp} {v : V} {r : SRow} (h : Dp K H v r.d) : ∃ q t1 t2, v = .ref q ∧ SqT K H q [.str (SX.S r.nm), .ref t1, .ref t2] ∧ SqT K H t1 (nmV r.dn) ∧ SqT K H t2 (nmV r.up) := by
  obtain ⟨q, v1, v2, e, hq, h1, h2⟩ := t3_at (t := sT r) h
  cases h1 with
  | tup a1 b1 =>
    cases h2 with
    | tup a2 b2 =>
      rw [names_of b1] at a1
      rw [names_of b2] at a2
      exact ⟨q, _, _, e, hq, a1, a2⟩
theorem gotTx_nd {xs : List Str} (h : xs.Nodup) : (gotTx xs).length = xs.length := ((List.perm_ext_iff_of_nodup (gotTx_nodup xs) h).mpr fun a => gotTx_mem).length_eq
theorem nodup_S {ws : List (List Nat)} (h : ws.Nodup) : (ws.map SX.S).Nodup := by
  induction ws with
  | nil => exact List.nodup_nil
  | cons u us ih =>
    rw [List.nodup_cons] at h
    rw [List.map_cons, List.nodup_cons]
    refine ⟨fun z => ?_, ih h.2⟩
    obtain ⟨x, hx, e⟩ := List.mem_map.mp z
    exact h.1 (SX.S_inj e ▸ hx)
/-- a row's name isn't told before -/
theorem new_name {α : Type} {f : α → List Nat} {rs : List α} {r : α} {j : Nat} (hn : (rs.map f).Nodup) (h : rs[j]? = some r) : f r ∉ (rs.take j).map f := by
  intro z
  obtain ⟨r', hr', e⟩ := List.mem_map.mp z
  have hsp : rs = rs.take j ++ r :: rs.drop (j + 1) := by
    obtain ⟨hj, e1⟩ := List.getElem?_eq_some_iff.mp h
    rw [← e1, ← List.drop_eq_getElem_cons hj, List.take_append_drop]
  rw [hsp, List.map_append, List.map_cons] at hn
  have hd := (List.nodup_append.mp hn).2.2
  exact hd (f r') (List.mem_map_of_mem hr') (f r) (List.mem_cons_self ..) e
theorem row_of {α : Type} {K : PySem.W.Frag} {H : Hp} {f : α → PyData} {sv : List V} {rs : List α} {j : Nat} {x : V} (h : DpAll K H sv (rs.map f)) (hx : sv[j]? = some x) : ∃ r, rs[j]? = some r ∧ Dp K H x (f r) := by
  obtain ⟨dd, hdd, hxd⟩ := dpAll_at h hx
  rw [List.getElem?_map] at hdd
  cases e : rs[j]? with
  | none => rw [e] at hdd; cases hdd
  | some r =>
    rw [e] at hdd
    cases hdd
    exact ⟨r, rfl, hxd⟩
def spAreN (K : PySem.W.Frag) : Sp := fun vs H Q _ => ∃ (q : Addr) (ws : List (List Nat)), vs = [.ref q] ∧ SqT K H q (nmV ws) ∧ ws.length ≤ 2 ∧ (∀ w ∈ ws, NmOk w) ∧ ∀ H', Same H H' → Q (.bl true) H'
def spSortSt (K : PySem.W.Frag) : Sp := fun vs H Q _ => ∃ (rv : V) (sd : Addr) (r : SRow) (kvs : List (Key × V)), vs = [rv, .ref sd] ∧ Dp K H rv r.d ∧ SOk r ∧ H sd = some (.dK kvs) ∧ kvs.length < 4 ∧ valV kvs (kS r.nm) = none ∧ ∀ H', Same H H' → Q (.bl true) H'
def spSortsIn (K : PySem.W.Frag) : Sp := fun vs H Q _ => ∃ (l : Addr) (sv : List V) (rs : List SRow), vs = [.ref l] ∧ H l = some (.lst sv) ∧ DpAll K H sv (rs.map SRow.d) ∧ SortsOk rs ∧
  ∀ (H' : Hp) (d : Addr) (kvs : List (Key × V)), Same H H' → H d = none → H' d = some (.dK kvs) → Tab K H' kvs (rs.map sT) → Q (.ref d) H'
section
variable {P : Program} {w : World} {K : PySem.W.Frag} {mg : Str → Option Value} {base : Heap} {PD LA : Addr}
theorem ok_are_names (T : Gb mg) (G : Gg mg PD LA) (cis_name : C8.Cal P w K mg base 1 "is_name" spNameT []) (D : Dd K mg "are_names" s_are_names P_are_names) : C8.Cal P w K mg base 2 "are_names" (spAreN K) [] := by
  refine D.cal sc_are_names (fun vs H Q E h => ?_) (fun f cdv A outer s H vs Q E hr h => ?_)
  · obtain ⟨q, ws, rfl, _⟩ := h
    rfl
  · obtain ⟨t, ws, rfl, ht, h2, hok, q⟩ := h
    refine ⟨_, (pss_cons (ps_if (PW.pt (pw_or (pt_not (pt_val (pe_callB call_isi (by rfl) T.isinstance (by decide +kernel) (pa_cons (pv 0) (pa_cons (pe_bltn (v := .ty "tuple") rfl T.tuple (by decide +kernel) rfl) pa_nil))))) (pw_or1 (pt_cmpR op_gt (pe_callB call_len_seq (by rfl) T.len PySem.boot_len (pa_cons (pv 0) pa_nil)) (C8.pe_gc (v := .int 2) rfl G.each) (nomark _)))))
          (pss_one (ps_ret pe_bl))
          pss_nil)
        (pss_one (ps_ret (pe_callB (cr_all rfl) (by rfl) T.all (by decide +kernel) (pa_cons (pe_lc (own := [("part", 1)]) (by exact rfl) sc_are_names.nd (pi_tup (pv 0)) (blkOk_by (own := [("part", 1)]) (N := N_are_names) (sc := defScope s_are_names) (by decide +kernel)) (fun _ _ _ _ _ => (pg_name (i := 1) sc_are_names.nd rfl (Or.inl rfl))) (fun _ _ _ _ _ => pts_nil) (fun _ _ _ _ _ => (C8.pe_c cis_name hr (by decide) (by rfl) (pa_cons (pv 1) pa_nil)))) pa_nil))))), ?_⟩
    refine ⟨_, rfl, .ref t, .ty "tuple", .type "tuple", .type "tuple", true, rfl, .ty "tuple", tyT ht, kit_ty (by decide +kernel), _, rfl, iteF ?_⟩
    refine ⟨_, rfl, t, _, rfl, .inr ht, _, _, rfl, rfl, _, rfl, ?_⟩
    refine ifF (decide_eq_false (show ¬ (2 : Int) < ((nmV ws).length : Int) by rw [nmV_len]; omega)) ?_
    refine ⟨_, rfl, t, rfl, ⟨_, ht⟩, fun D nD => ?_⟩
    refine lc_it (walk_tup (K := K) (a := t) (xs := nmV ws)) (fun j H' => Same H H' ∧ H' D = some (.lst ((List.replicate j true).map V.bl))) ⟨same_upd nD, upd_same⟩ (fun j H3 _ hh => sqT_s hh.1 ht) ?_ ?_
    · rintro j v H3 H4 hj ⟨sm, hD⟩ ⟨rfl, hv⟩
      obtain ⟨u, hu, rfl⟩ : ∃ u, ws[j]? = some u ∧ v = V.str (SX.S u) := by
        replace hv : (nmV ws)[j]? = some v := hv
        unfold nmV at hv
        rw [List.getElem?_map] at hv
        cases e : ws[j]? with
        | none => rw [e] at hv; cases hv
        | some u => rw [e] at hv; exact ⟨u, rfl, (Option.some.inj hv).symm⟩
      refine ⟨rfl, yesT ?_⟩
      refine ⟨_, rfl, u, rfl, hok u (List.mem_of_getElem? hu), fun H5 s5 => ?_⟩
      rw [nmV_len] at hj
      refine ⟨_, s5 _ _ hD, by rw [List.length_map, List.length_replicate]; exact small1000 (by omega), Same.at_ (sm.trans s5) nD, ?_⟩
      rw [upd_same, List.replicate_succ', List.map_append]
      rfl
    · rintro H3 ⟨sm, hD⟩
      refine ⟨D, _, rfl, SqL.of hD, ?_⟩
      rw [show (List.replicate (nmV ws).length true).all id = true by simp]
      exact q _ sm
theorem ok_sort_stands (T : Gb mg) (G : Gg mg PD LA) (cis_name : C8.Cal P w K mg base 1 "is_name" spNameT []) (cis_tuple_of : C8.Cal P w K mg base 1 "is_tuple_of" (spTupOf K) []) (care_names : C8.Cal P w K mg base 2 "are_names" (spAreN K) []) (D : Dd K mg "sort_stands" s_sort_stands P_sort_stands) : C8.Cal P w K mg base 3 "sort_stands" (spSortSt K) [] := by
  refine D.cal sc_sort_stands (fun vs H Q E h => ?_) (fun f cdv A outer s H vs Q E hr h => ?_)
  · obtain ⟨rv, sd, r, kvs, rfl, _⟩ := h
    rfl
  · obtain ⟨rv, sd, r, kvs, rfl, hrow, sok, hsd, hl, hno, q⟩ := h
    obtain ⟨q0, t1, t2, rfl, hq, ht1, ht2⟩ := s_at hrow
    refine ⟨_, (pss_cons (ps_if (PW.pt (pw_or (pt_not (pt_val (C8.pe_c cis_tuple_of hr (by decide) (by rfl) (pa_cons (pv 0) (pa_cons pe_int pa_nil))))) (pw_or1 (pt_cmpR op_eq (pe_callB call_lenD (by rfl) T.len PySem.boot_len (pa_cons (pv 1) pa_nil)) (C8.pe_gc (v := .int 4) rfl G.sorts) (nomark _)))))
          (pss_one (ps_ret pe_bl))
          pss_nil)
        (pss_cons (ps_asg (pv 0) (pg_tup rfl (pgs_cons (pg_name (i := 2) sc_sort_stands.nd rfl (Or.inl rfl)) (pgs_cons (pg_name (i := 3) sc_sort_stands.nd rfl (Or.inl rfl)) (pgs_cons (pg_name (i := 4) sc_sort_stands.nd rfl (Or.inl rfl)) pgs_nil)))))
        (pss_cons (ps_if (PW.pt (pw_or (pt_not (pt_val (C8.pe_c cis_name hr (by decide) (by rfl) (pa_cons (pv 2) pa_nil)))) (pw_or (pt_cmp (pc_din (hu_of hr) (pv 2) (pv 1)) (by with_unfolding_all rfl)) (pw_or (pt_not (pt_val (C8.pe_c care_names hr (by decide) (by rfl) (pa_cons (pv 3) pa_nil)))) (pw_or1 (pt_not (pt_val (C8.pe_c care_names hr (by decide) (by rfl) (pa_cons (pv 4) pa_nil)))))))))
          (pss_one (ps_ret pe_bl))
          pss_nil)
        (pss_one (ps_ret (pe_cmpR op_eq (pe_callB cr_lenTx (by rfl) T.len PySem.boot_len (pa_cons (pe_callTy (cr_setTx rfl) (by rfl) T.set (by decide +kernel) (pa_cons (pe_op (r := rCatAny K) op_catAny (pv 3) (pv 4)) pa_nil)) pa_nil)) (pe_callB call_len_seq (by rfl) T.len PySem.boot_len (pa_cons (pe_op (r := rCatAny K) op_catAny (pv 3) (pv 4)) pa_nil)) (nomark _))))))), ?_⟩
    refine ⟨_, rfl, .ref q0, r.d, 3, rfl, hrow, _, rfl, ifF rfl ?_⟩
    refine ⟨_, rfl, sd, kvs, rfl, hsd, rfl, _, rfl, ifF (decide_eq_false (fun z => by have := V.int.inj z; omega)) ?_⟩
    refine ⟨_, rfl, q0, _, rfl, hq, rfl, _, _, rfl, _, _, rfl, _, _, rfl, rfl, ?_⟩
    refine ⟨_, rfl, r.nm, rfl, sok.nm, fun H1 s1 => ⟨_, rfl, ifF rfl ?_⟩⟩
    refine ⟨_, rfl, _, rfl, sd, none, rfl, by have h := DGet.k (k := kS r.nm) (s1 _ _ hsd); rw [hno] at h; exact h, _, rfl, ifF rfl ?_⟩
    refine ⟨_, rfl, t1, r.dn, rfl, sqT_s s1 ht1, sok.d2, fun w hw => sok.all w (List.mem_append_left _ hw), fun H2 s2 => ⟨_, rfl, ifF rfl ?_⟩⟩
    have s12 := s1.trans s2
    refine ⟨_, rfl, t2, r.up, rfl, sqT_s s12 ht2, sok.u2, fun w hw => sok.all w (List.mem_append_right _ hw), fun H3 s3 => ⟨_, rfl, ifF rfl ?_⟩⟩
    have s13 := s12.trans s3
    have hd2 := sok.d2
    have hu2 := sok.u2
    refine ⟨_, rfl, _, rfl, t1, t2, nmV r.dn, nmV r.up, rfl, rfl, sqT_s s13 ht1, sqT_s s13 ht2, by rw [nmV_len, nmV_len]; exact Nat.le_trans (show _ ≤ 4 by omega) (by decide), fun H4 p4 s4 h4 => ?_⟩
    have e4 : nmV r.dn ++ nmV r.up = ((r.dn ++ r.up).map SX.S).map V.str := by
      unfold nmV
      rw [List.map_map, List.map_append]
      rfl
    rw [e4] at h4
    refine ⟨p4, _, rfl, .inr h4, by rw [List.length_map, List.length_append]; omega, fun p5 n5 => ?_⟩
    refine ⟨p5, _, rfl, upd_same, ?_⟩
    have s5 := s13.trans (s4.trans (same_upd (o := setTxO w p5 (gotTx ((r.dn ++ r.up).map SX.S))) n5))
    refine ⟨_, rfl, _, rfl, t1, t2, nmV r.dn, nmV r.up, rfl, rfl, sqT_s s5 ht1, sqT_s s5 ht2, by rw [nmV_len, nmV_len]; exact Nat.le_trans (show _ ≤ 4 by omega) (by decide), fun H6 p6 s6 h6 => ?_⟩
    refine ⟨p6, _, rfl, .inr h6, rfl, ?_⟩
    have e6 : decide (V.int (((gotTx ((r.dn ++ r.up).map SX.S)).length : Nat) : Int) = V.int (((nmV r.dn ++ nmV r.up).length : Nat) : Int)) = true := by
      exact decide_eq_true (congrArg (fun n : Nat => V.int (n : Int)) (by rw [gotTx_nd (nodup_S sok.nd), e4, List.length_map (f := V.str)]))
    rw [e6]
    exact q _ (s5.trans s6)
theorem ok_sorts_in (T : Gb mg) (crows_of : C8.Cal P w K mg base 1 "rows_of" spRows []) (csort_stands : C8.Cal P w K mg base 3 "sort_stands" (spSortSt K) []) (D : Dd K mg "sorts_in" s_sorts_in P_sorts_in) : C8.Cal P w K mg base 4 "sorts_in" (spSortsIn K) [] := by
  refine D.cal sc_sorts_in (fun vs H Q E h => ?_) (fun f cdv A outer s H vs Q E hr h => ?_)
  · obtain ⟨l, sv, rs, rfl, _⟩ := h
    rfl
  · obtain ⟨l, sv, rs, rfl, hl, hsv, sok, q⟩ := h
    refine ⟨_, (pss_cons (ps_set (i := 1) sc_sorts_in.nd rfl (Or.inl rfl) pe_dnewK)
        (pss_cons (ps_for PassesOwn.never rfl (pi_enum (by rfl) T.enumerate (pa_cons (C8.pe_c crows_of hr (by decide) (by rfl) (pa_cons pe_str (pa_cons (pv 0) pa_nil))) pa_nil)) (pg_tup rfl (pgs_cons (pg_name (i := 2) sc_sorts_in.nd rfl (Or.inl rfl)) (pgs_cons (pg_name (i := 3) sc_sorts_in.nd rfl (Or.inl rfl)) pgs_nil)))
          (pss_cons (ps_if (pt_not (pt_val (C8.pe_c csort_stands hr (by decide) (by rfl) (pa_cons (pv 3) (pa_cons (pv 1) pa_nil)))))
          (pss_one ps_never)
          pss_nil)
        (pss_one (ps_dput (hu_of hr) (pv 1) (pe_ix (r := rIxT K) ix_tup (pv 3) pe_int (fun _ _ => rfl)) (pe_slice (r := rSlAny K) sl_any (pv 3) (po_some pe_int) po_none) (by rfl)))))
        (pss_one (ps_ret (pv 1))))), ?_⟩
    refine fun d nd => ?_
    have s1 := same_upd (o := .dK []) nd
    have lsv := dpAll_len hsv
    rw [List.length_map] at lsv
    have h4 := sok.le
    refine ⟨_, rfl, "sorts", l, sv, rfl, s1 _ _ hl, l, sv, rfl, SqL.of (s1 _ _ hl), ?_⟩
    refine for_it walk_enum (fun j σ Y => ∃ (y2 y3 : Option V) (kvs : List (Key × V)), σ = [some (.ref l), some (.ref d), y2, y3] ∧ Same H Y ∧ Y d = some (.dK kvs) ∧ Tab K Y kvs ((rs.take j).map sT))
      ⟨none, none, [], rfl, s1, upd_same, .nil⟩ (fun i σ Y _ ⟨_, _, _, _, h, _⟩ => SqL.of (h _ _ hl)) ?_ ?_
    · rintro j v σ Y0 Y hj ⟨y2, y3, kvs, rfl, s2, hd, htab⟩ ⟨TT, xx, yy, rfl, nT, rfl, ex, ey⟩
      cases ex
      obtain ⟨r, hr1, hrow⟩ := row_of (dpAll_same s2 hsv) ey
      have sN := same_upd (o := .tup [.int ((j : Nat) : Int), yy]) nT
      have hjr : j < rs.length := (List.getElem?_eq_some_iff.mp hr1).1
      have hno := new_name (f := SRow.nm) sok.nd hr1
      have hno' : r.nm ∉ ((rs.take j).map sT).map T3.k := by
        rw [List.map_map]
        exact hno
      have lk := htab.len
      rw [List.length_map, List.length_take] at lk
      refine ⟨TT, _, rfl, SqT.of upd_same, rfl, _, _, rfl, _, _, rfl, rfl, ?_⟩
      refine ⟨_, rfl, _, rfl, yy, d, r, kvs, rfl, dp_same sN hrow, sok.ok r (List.mem_of_getElem? hr1), sN _ _ hd, by omega, htab.none hno', fun Y2 sY => ⟨_, rfl, iteF ?_⟩⟩
      have sA := sN.trans sY
      obtain ⟨q0, v1, v2, rfl, hq, hd1, hd2⟩ := t3_at (t := sT r) (dp_same sA hrow)
      refine ⟨_, rfl, _, rfl, q0, _, rfl, hq, fun Y3 p3 sp3 hp3 => ?_⟩
      have sB := sA.trans sp3
      refine ⟨_, rfl, _, rfl, q0, _, 0, .str (SX.S r.nm), rfl, rfl, sqT_s sp3 hq, atI_nat (j := 0) rfl, ?_⟩
      have hv3 : Dp K Y3 (.ref p3) (sT r).r := .tup hp3 (.cons (dp_same sp3 hd1) (.cons (dp_same sp3 hd2) .nil))
      have hd3 := sB _ _ hd
      have hpt := (htab.keep (KeepT.of sB) (fun t ht => by obtain ⟨r', _, e⟩ := List.mem_map.mp ht; rw [← e]; exact sT_imm r')).put (t := sT r) hno' hv3
      refine ⟨d, _, rfl, DPut.k (k := kS r.nm) hd3 (small1000 (by omega)), _, _, _, rfl, ?_, upd_same, ?_⟩
      · exact Same.at_ (s2.trans sB) nd
      · rw [List.take_add_one, hr1, List.map_append]
        exact hpt.keep (KeepT.at_ hd3 dK_no) (fun t ht => by
          rcases List.mem_append.mp ht with ht | ht
          · obtain ⟨r', _, e⟩ := List.mem_map.mp ht
            rw [← e]
            exact sT_imm r'
          · rw [List.mem_singleton.mp ht]
            exact sT_imm r)
    · rintro σ Y ⟨y2, y3, kvs, rfl, s2, hd, htab⟩
      rw [lsv, List.take_length] at htab
      exact ⟨_, rfl, q _ d kvs s2 nd hd htab⟩
end
abbrev s_making_stands : Stmt := top 35
abbrev N_making_stands : List Str := ["row", "makings", "sorts", "making", "sort", "parts", "each"]
abbrev P_making_stands : List Str := ["row", "makings", "sorts"]
theorem sc_making_stands : FnScope N_making_stands P_making_stands (defScope s_making_stands) := ⟨rfl, rfl, rfl, by decide +kernel, rfl, by decide +kernel, by decide +kernel⟩
abbrev s_makings_in : Stmt := top 36
abbrev N_makings_in : List Str := ["rows", "sorts", "makings", "number", "row"]
abbrev P_makings_in : List Str := ["rows", "sorts"]
theorem sc_makings_in : FnScope N_makings_in P_makings_in (defScope s_makings_in) := ⟨rfl, rfl, rfl, by decide +kernel, rfl, by decide +kernel, by decide +kernel⟩
def spMakSt (K : PySem.W.Frag) : Sp := fun vs H Q _ => ∃ (rv : V) (md sd : Addr) (mr : MRow) (kvs skv : List (Key × V)), vs = [rv, .ref md, .ref sd] ∧ Dp K H rv mr.d ∧ NmOk mr.nm ∧ (∀ k ∈ mr.places, NmOk k) ∧ mr.pt.length ≤ 2 ∧ H md = some (.dK kvs) ∧ kvs.length < 8 ∧ valV kvs (kS mr.nm) = none ∧ H sd = some (.dK skv) ∧ (∀ k ∈ mr.places, (valV skv (kS k)).isSome = true) ∧ ∀ H', Same H H' → Q (.bl true) H'
def spMaksIn (K : PySem.W.Frag) : Sp := fun vs H Q _ => ∃ (l sd : Addr) (mv : List V) (rs : List SRow) (ms : List MRow) (skv : List (Key × V)), vs = [.ref l, .ref sd] ∧ H l = some (.lst mv) ∧ DpAll K H mv (ms.map MRow.d) ∧ SortsOk rs ∧ (ms.map MRow.nm).Nodup ∧ (∀ m ∈ ms, MOk rs m) ∧ ms.length ≤ 8 ∧ H sd = some (.dK skv) ∧ Tab K H skv (rs.map sT) ∧
  ∀ (H' : Hp) (d : Addr) (kvs : List (Key × V)), Same H H' → H d = none → H' d = some (.dK kvs) → Tab K H' kvs (ms.map mT) → Q (.ref d) H'
theorem places_ok {rs : List SRow} {mr : MRow} (so : SortsOk rs) (m : MOk rs mr) : ∀ k ∈ mr.places, NmOk k := fun k hk => by
  obtain ⟨r, hr, rfl⟩ := m.so k hk
  exact (so.ok r hr).nm
theorem sT_k (rs : List SRow) : (rs.map sT).map T3.k = rs.map SRow.nm := by
  rw [List.map_map]
  rfl
theorem mT_k (rs : List MRow) : (rs.map mT).map T3.k = rs.map MRow.nm := by
  rw [List.map_map]
  rfl
section
variable {P : Program} {w : World} {K : PySem.W.Frag} {mg : Str → Option Value} {base : Heap} {PD LA : Addr}
theorem ok_making_stands (T : Gb mg) (G : Gg mg PD LA) (cis_name : C8.Cal P w K mg base 1 "is_name" spNameT []) (cis_tuple_of : C8.Cal P w K mg base 1 "is_tuple_of" (spTupOf K) []) (care_names : C8.Cal P w K mg base 2 "are_names" (spAreN K) []) (D : Dd K mg "making_stands" s_making_stands P_making_stands) : C8.Cal P w K mg base 3 "making_stands" (spMakSt K) [] := by
  refine D.cal sc_making_stands (fun vs H Q E h => ?_) (fun f cdv A outer s H vs Q E hr h => ?_)
  · obtain ⟨rv, md, sd, mr, kvs, skv, rfl, _⟩ := h
    rfl
  · obtain ⟨rv, md, sd, mr, kvs, skv, rfl, hrow, hnm, hpl, hp2, hmd, hl, hno, hsd, hin, q⟩ := h
    obtain ⟨q0, t, rfl, hq, ht⟩ := row_at hrow
    refine ⟨_, (pss_cons (ps_if (PW.pt (pw_or (pt_not (pt_val (C8.pe_c cis_tuple_of hr (by decide) (by rfl) (pa_cons (pv 0) (pa_cons pe_int pa_nil))))) (pw_or1 (pt_cmpR op_eq (pe_callB call_lenD (by rfl) T.len PySem.boot_len (pa_cons (pv 1) pa_nil)) (C8.pe_gc (v := .int 8) rfl G.makings) (nomark _)))))
          (pss_one (ps_ret pe_bl))
          pss_nil)
        (pss_cons (ps_asg (pv 0) (pg_tup rfl (pgs_cons (pg_name (i := 3) sc_making_stands.nd rfl (Or.inl rfl)) (pgs_cons (pg_name (i := 4) sc_making_stands.nd rfl (Or.inl rfl)) (pgs_cons (pg_name (i := 5) sc_making_stands.nd rfl (Or.inl rfl)) pgs_nil)))))
        (pss_cons (ps_if (PW.pt (pw_or (pt_not (pt_val (C8.pe_c cis_name hr (by decide) (by rfl) (pa_cons (pv 3) pa_nil)))) (pw_or (pt_cmp (pc_din (hu_of hr) (pv 3) (pv 1)) (by with_unfolding_all rfl)) (pw_or1 (pt_not (pt_val (C8.pe_c care_names hr (by decide) (by rfl) (pa_cons (pv 5) pa_nil))))))))
          (pss_one (ps_ret pe_bl))
          pss_nil)
        (pss_one (ps_ret (pe_and (C8.pe_c cis_name hr (by decide) (by rfl) (pa_cons (pv 4) pa_nil)) (pe_one (pe_callB (cr_all rfl) (by rfl) T.all (by decide +kernel) (pa_cons (pe_lc (own := [("each", 6)]) (by exact rfl) sc_making_stands.nd (pi_tup (pe_tup (pa_cons (pv 4) (StX.pa_star (pv 5) pa_nil)))) (blkOk_by (own := [("each", 6)]) (N := N_making_stands) (sc := defScope s_making_stands) (by decide +kernel)) (fun _ _ _ _ _ => (pg_name (i := 6) sc_making_stands.nd rfl (Or.inl rfl))) (fun _ _ _ _ _ => pts_nil) (fun _ _ _ _ _ => (pe_cmp (pc_din (hu_of hr) (pv 6) (pv 2)) (by with_unfolding_all rfl)))) pa_nil))))))))), ?_⟩
    refine ⟨_, rfl, .ref q0, mr.d, 3, rfl, hrow, _, rfl, ifF rfl ?_⟩
    refine ⟨_, rfl, md, kvs, rfl, hmd, rfl, _, rfl, ifF (decide_eq_false (fun z => by have := V.int.inj z; omega)) ?_⟩
    refine ⟨_, rfl, q0, _, rfl, hq, rfl, _, _, rfl, _, _, rfl, _, _, rfl, rfl, ?_⟩
    refine ⟨_, rfl, mr.nm, rfl, hnm, fun H1 s1 => ⟨_, rfl, ifF rfl ?_⟩⟩
    refine ⟨_, rfl, _, rfl, md, none, rfl, by have h := DGet.k (k := kS mr.nm) (s1 _ _ hmd); rw [hno] at h; exact h, _, rfl, ifF rfl ?_⟩
    refine ⟨_, rfl, t, mr.pt, rfl, sqT_s s1 ht, hp2, fun w hw => hpl w (List.mem_cons_of_mem _ hw), fun H2 s2 => ⟨_, rfl, ifF rfl ?_⟩⟩
    have s12 := s1.trans s2
    refine ⟨_, rfl, mr.so, rfl, hpl _ (List.mem_cons_self ..), fun H3 s3 => ⟨_, rfl, iteT ?_⟩⟩
    have s13 := s12.trans s3
    refine ⟨_, rfl, _, rfl, t, nmV mr.pt, rfl, .inl (sqT_s s13 ht), ?_⟩
    have e4 : V.str (SX.S mr.so) :: (nmV mr.pt ++ []) = nmV mr.places := by
      rw [List.append_nil]
      rfl
    have lpl : mr.places.length ≤ 3 := by
      show mr.pt.length + 1 ≤ 3
      omega
    refine ⟨?_, fun p4 n4 => ?_⟩
    · show (V.str (SX.S mr.so) :: (nmV mr.pt ++ [])).length ≤ _
      rw [e4, nmV_len]
      exact Nat.le_trans lpl (by decide)
    have s4 := s13.trans (same_upd (o := .tup (V.str (SX.S mr.so) :: (nmV mr.pt ++ []))) n4)
    have h4 : SqT K (upd H3 p4 (.tup (V.str (SX.S mr.so) :: (nmV mr.pt ++ [])))) p4 (V.str (SX.S mr.so) :: (nmV mr.pt ++ [])) := SqT.of upd_same
    show (∃ p, V.ref p4 = V.ref p ∧ _)
    refine ⟨p4, rfl, ⟨_, h4⟩, fun D nD => ?_⟩
    refine lc_it (walk_tup (K := K) (a := p4) (xs := V.str (SX.S mr.so) :: (nmV mr.pt ++ []))) (fun j H' => Same (upd H3 p4 (.tup (V.str (SX.S mr.so) :: (nmV mr.pt ++ [])))) H' ∧ H' D = some (.lst ((List.replicate j true).map V.bl))) ⟨same_upd nD, upd_same⟩ (fun j H5 _ hh => sqT_s hh.1 h4) ?_ ?_
    · rintro j v H5 H6 hj ⟨sm, hD⟩ ⟨rfl, hv⟩
      obtain ⟨u, hu, rfl⟩ : ∃ u, mr.places[j]? = some u ∧ v = V.str (SX.S u) := by
        replace hv : (V.str (SX.S mr.so) :: (nmV mr.pt ++ []))[j]? = some v := hv
        rw [e4] at hv
        unfold nmV at hv
        rw [List.getElem?_map] at hv
        cases e : mr.places[j]? with
        | none => rw [e] at hv; cases hv
        | some u => rw [e] at hv; exact ⟨u, rfl, (Option.some.inj hv).symm⟩
      refine ⟨rfl, yesT ?_⟩
      have s6 := s4.trans sm
      refine ⟨_, rfl, _, rfl, sd, _, rfl, DGet.k (k := kS u) (s6 _ _ hsd), ?_⟩
      rw [hin u (List.mem_of_getElem? hu)]
      rw [e4, nmV_len] at hj
      refine ⟨_, hD, by rw [List.length_map, List.length_replicate]; exact small1000 (by omega), Same.at_ sm nD, ?_⟩
      rw [upd_same, List.replicate_succ', List.map_append]
      rfl
    · rintro H5 ⟨sm, hD⟩
      refine ⟨D, _, rfl, SqL.of hD, ?_⟩
      rw [show (List.replicate (V.str (SX.S mr.so) :: (nmV mr.pt ++ [])).length true).all id = true by simp]
      exact q _ (s4.trans sm)
theorem ok_makings_in (T : Gb mg) (crows_of : C8.Cal P w K mg base 1 "rows_of" spRows []) (cmaking_stands : C8.Cal P w K mg base 3 "making_stands" (spMakSt K) []) (D : Dd K mg "makings_in" s_makings_in P_makings_in) : C8.Cal P w K mg base 4 "makings_in" (spMaksIn K) [] := by
  refine D.cal sc_makings_in (fun vs H Q E h => ?_) (fun f cdv A outer s H vs Q E hr h => ?_)
  · obtain ⟨l, sd, mv, rs, ms, skv, rfl, _⟩ := h
    rfl
  · obtain ⟨l, sd, sv, rs0, rs, skv, rfl, hl, hsv, sok, hnd, hok, h8, hsd, hstab, q⟩ := h
    refine ⟨_, (pss_cons (ps_set (i := 2) sc_makings_in.nd rfl (Or.inl rfl) pe_dnewK)
        (pss_cons (ps_for PassesOwn.never rfl (pi_enum (by rfl) T.enumerate (pa_cons (C8.pe_c crows_of hr (by decide) (by rfl) (pa_cons pe_str (pa_cons (pv 0) pa_nil))) pa_nil)) (pg_tup rfl (pgs_cons (pg_name (i := 3) sc_makings_in.nd rfl (Or.inl rfl)) (pgs_cons (pg_name (i := 4) sc_makings_in.nd rfl (Or.inl rfl)) pgs_nil)))
          (pss_cons (ps_if (pt_not (pt_val (C8.pe_c cmaking_stands hr (by decide) (by rfl) (pa_cons (pv 4) (pa_cons (pv 2) (pa_cons (pv 1) pa_nil))))))
          (pss_one ps_never)
          pss_nil)
        (pss_one (ps_dput (hu_of hr) (pv 2) (pe_ix (r := rIxT K) ix_tup (pv 4) pe_int (fun _ _ => rfl)) (pe_slice (r := rSlAny K) sl_any (pv 4) (po_some pe_int) po_none) (by rfl)))))
        (pss_one (ps_ret (pv 2))))), ?_⟩
    refine fun d nd => ?_
    have s1 := same_upd (o := .dK []) nd
    have lsv := dpAll_len hsv
    rw [List.length_map] at lsv
    refine ⟨_, rfl, "makings", l, sv, rfl, s1 _ _ hl, l, sv, rfl, SqL.of (s1 _ _ hl), ?_⟩
    refine for_it walk_enum (fun j σ Y => ∃ (y2 y3 : Option V) (kvs : List (Key × V)), σ = [some (.ref l), some (.ref sd), some (.ref d), y2, y3] ∧ Same H Y ∧ Y d = some (.dK kvs) ∧ Tab K Y kvs ((rs.take j).map mT))
      ⟨none, none, [], rfl, s1, upd_same, .nil⟩ (fun i σ Y _ ⟨_, _, _, _, h, _⟩ => SqL.of (h _ _ hl)) ?_ ?_
    · rintro j v σ Y0 Y hj ⟨y2, y3, kvs, rfl, s2, hd, htab⟩ ⟨TT, xx, yy, rfl, nT, rfl, ex, ey⟩
      cases ex
      obtain ⟨r, hr1, hrow⟩ := row_of (dpAll_same s2 hsv) ey
      have sN := same_upd (o := .tup [.int ((j : Nat) : Int), yy]) nT
      have hjr : j < rs.length := (List.getElem?_eq_some_iff.mp hr1).1
      have hno' : r.nm ∉ ((rs.take j).map mT).map T3.k := by
        rw [mT_k]
        exact new_name (f := MRow.nm) hnd hr1
      have mok := hok r (List.mem_of_getElem? hr1)
      have lk := htab.len
      rw [List.length_map, List.length_take] at lk
      refine ⟨TT, _, rfl, SqT.of upd_same, rfl, _, _, rfl, _, _, rfl, rfl, ?_⟩
      refine ⟨_, rfl, _, rfl, _, rfl, yy, d, sd, r, kvs, skv, rfl, dp_same sN hrow, mok.nm, places_ok sok mok, mok.p2, sN _ _ hd, by omega, htab.none hno', sN _ _ (s2 _ _ hsd), fun k hk => ?_, fun Y2 sY => ⟨_, rfl, iteF ?_⟩⟩
      · obtain ⟨r', hr', rfl⟩ := mok.so k hk
        obtain ⟨v', e', _⟩ := hstab.val (t := sT r') (by rw [sT_k]; exact sok.nd) (List.mem_map_of_mem hr')
        rw [show kS r'.nm = kS (sT r').k from rfl, e']
        rfl
      have sA := sN.trans sY
      obtain ⟨q0, v1, v2, rfl, hq, hd1, hd2⟩ := t3_at (t := mT r) (dp_same sA hrow)
      refine ⟨_, rfl, _, rfl, q0, _, rfl, hq, fun Y3 p3 sp3 hp3 => ?_⟩
      have sB := sA.trans sp3
      refine ⟨_, rfl, _, rfl, q0, _, 0, .str (SX.S r.nm), rfl, rfl, sqT_s sp3 hq, atI_nat (j := 0) rfl, ?_⟩
      have hv3 : Dp K Y3 (.ref p3) (mT r).r := .tup hp3 (.cons (dp_same sp3 hd1) (.cons (dp_same sp3 hd2) .nil))
      have hd3 := sB _ _ hd
      have hpt := (htab.keep (KeepT.of sB) (fun t ht => by obtain ⟨r', _, e⟩ := List.mem_map.mp ht; rw [← e]; exact mT_imm r')).put (t := mT r) hno' hv3
      refine ⟨d, _, rfl, DPut.k (k := kS r.nm) hd3 (small1000 (by omega)), _, _, _, rfl, ?_, upd_same, ?_⟩
      · exact Same.at_ (s2.trans sB) nd
      · rw [List.take_add_one, hr1, List.map_append]
        exact hpt.keep (KeepT.at_ hd3 dK_no) (fun t ht => by
          rcases List.mem_append.mp ht with ht | ht
          · obtain ⟨r', _, e⟩ := List.mem_map.mp ht
            rw [← e]
            exact mT_imm r'
          · rw [List.mem_singleton.mp ht]
            exact mT_imm r)
    · rintro σ Y ⟨y2, y3, kvs, rfl, s2, hd, htab⟩
      rw [lsv, List.take_length] at htab
      exact ⟨_, rfl, q _ d kvs s2 nd hd htab⟩
end
abbrev s_worths_at : Stmt := top 37
abbrev N_worths_at : List Str := ["place", "form", "sorts", "places"]
abbrev P_worths_at : List Str := ["place", "form", "sorts"]
theorem sc_worths_at : FnScope N_worths_at P_worths_at (defScope s_worths_at) := ⟨rfl, rfl, rfl, by decide +kernel, rfl, by decide +kernel, by decide +kernel⟩
abbrev s_is_at : Stmt := top 38
abbrev N_is_at : List Str := ["thing"]
abbrev P_is_at : List Str := ["thing"]
theorem sc_is_at : FnScope N_is_at P_is_at (defScope s_is_at) := ⟨rfl, rfl, rfl, by decide +kernel, rfl, by decide +kernel, by decide +kernel⟩
abbrev s_is_kept : Stmt := top 39
abbrev N_is_kept : List Str := ["thing", "form", "sorts", "downs", "ups"]
abbrev P_is_kept : List Str := ["thing", "form", "sorts"]
theorem sc_is_kept : FnScope N_is_kept P_is_kept (defScope s_is_kept) := ⟨rfl, rfl, rfl, by decide +kernel, rfl, by decide +kernel, by decide +kernel⟩
abbrev s_is_target : Stmt := top 40
abbrev N_is_target : List Str := ["thing", "form", "sorts", "downs", "ups"]
abbrev P_is_target : List Str := ["thing", "form", "sorts"]
theorem sc_is_target : FnScope N_is_target P_is_target (defScope s_is_target) := ⟨rfl, rfl, rfl, by decide +kernel, rfl, by decide +kernel, by decide +kernel⟩
abbrev s_is_operand : Stmt := top 41
abbrev N_is_operand : List Str := ["thing", "form", "sorts", "downs", "ups"]
abbrev P_is_operand : List Str := ["thing", "form", "sorts"]
theorem sc_is_operand : FnScope N_is_operand P_is_operand (defScope s_is_operand) := ⟨rfl, rfl, rfl, by decide +kernel, rfl, by decide +kernel, by decide +kernel⟩
/-- a making's form and the sorts' table, on the heap -/
structure Fm (K : PySem.W.Frag) (H : Hp) (fv : V) (sd : Addr) (rs : List SRow) (mr : MRow) : Prop where
  f : Dp K H fv (mT mr).r
  t : ∃ skv, H sd = some (.dK skv) ∧ Tab K H skv (rs.map sT)
  so : SortsOk rs
  mo : MOk rs mr
theorem Fm.same {K : PySem.W.Frag} {H H' : Hp} {fv : V} {sd : Addr} {rs : List SRow} {mr : MRow} (s : Same H H') (h : Fm K H fv sd rs mr) : Fm K H' fv sd rs mr := by
  obtain ⟨skv, h1, h2⟩ := h.t
  exact ⟨dp_same s h.f, ⟨skv, s _ _ h1, h2.keep (KeepT.of s) (fun t ht => by obtain ⟨r', _, e⟩ := List.mem_map.mp ht; rw [← e]; exact sT_imm r')⟩, h.so, h.mo⟩
theorem Fm.at_ {K : PySem.W.Frag} {H : Hp} {fv : V} {sd : Addr} {rs : List SRow} {mr : MRow} (h : Fm K H fv sd rs mr) : ∃ q t, fv = .ref q ∧ SqT K H q [.str (SX.S mr.so), .ref t] ∧ SqT K H t (nmV mr.pt) := by
  cases h.f with
  | tup hS hA =>
    cases hA with
    | cons a1 hA =>
      cases hA with
      | cons a2 hA =>
        cases hA
        cases a1
        cases a2 with
        | tup hS2 hA2 =>
          rw [names_of hA2] at hS2
          exact ⟨_, _, rfl, hS, hS2⟩
theorem Fm.get {K : PySem.W.Frag} {H : Hp} {fv : V} {sd : Addr} {rs : List SRow} {mr : MRow} (h : Fm K H fv sd rs mr) {r : SRow} (hr : r ∈ rs) : ∃ (p t1 t2 : Addr), DGet H sd (.str (SX.S r.nm)) (some (.ref p)) ∧ SqT K H p [.ref t1, .ref t2] ∧ SqT K H t1 (nmV r.dn) ∧ SqT K H t2 (nmV r.up) := by
  obtain ⟨skv, h1, h2⟩ := h.t
  obtain ⟨v, e, hd⟩ := h2.val (t := sT r) (by rw [sT_k]; exact h.so.nd) (List.mem_map_of_mem hr)
  have hg := DGet.k (k := kS r.nm) h1
  rw [show kS r.nm = kS (sT r).k from rfl, e] at hg
  cases hd with
  | tup hS hA =>
    cases hA with
    | cons a1 hA =>
      cases hA with
      | cons a2 hA =>
        cases hA
        cases a1 with
        | tup b1 c1 =>
          cases a2 with
          | tup b2 c2 =>
            rw [names_of c1] at b1
            rw [names_of c2] at b2
            exact ⟨_, _, _, hg, hS, b1, b2⟩
theorem sp_at {K : PySem.W.Frag} {H : Hp} {v : V} {p : Nat} {w : List Nat} (h : Dp K H v (En.d (.sp p w))) : ∃ q, v = .ref q ∧ SqT K H q [.str "at", .int (p : Nat), .str (SX.S w)] := by
  cases h with
  | tup hS hA =>
    cases hA with
    | cons a1 hA =>
      cases hA with
      | cons a2 hA =>
        cases hA with
        | cons a3 hA =>
          cases hA
          cases a1
          cases a2
          cases a3
          exact ⟨_, rfl, hS⟩
theorem kp_at {K : PySem.W.Frag} {H : Hp} {v : V} {w : List Nat} (h : Dp K H v (En.d (.kept w))) : ∃ q, v = .ref q ∧ SqT K H q [.str "kept", .str (SX.S w)] := by
  cases h with
  | tup hS hA =>
    cases hA with
    | cons a1 hA =>
      cases hA with
      | cons a2 hA =>
        cases hA
        cases a1
        cases a2
        exact ⟨_, rfl, hS⟩
theorem num_at {K : PySem.W.Frag} {H : Hp} {v : V} {n : Nat} (h : Dp K H v (Od.d (.num n))) : ∃ q, v = .ref q ∧ SqT K H q [.str "number", .int (n : Nat)] := by
  cases h with
  | tup hS hA =>
    cases hA with
    | cons a1 hA =>
      cases hA with
      | cons a2 hA =>
        cases hA
        cases a1
        cases a2
        exact ⟨_, rfl, hS⟩
theorem let_sm {c : Nat} (h : isLet c = true) : c < 128 := by
  unfold isLet at h
  simp only [Bool.and_eq_true, decide_eq_true_eq] at h
  omega
theorem own_sh : SeqAt.shaped (Od.d .own) = true := by decide +kernel
theorem kept_sh {w : List Nat} (h : NmOk w) : SeqAt.shaped (En.d (.kept w)) = true := by
  obtain ⟨h1, h2⟩ := en_lay (e := .kept w) (fun c hc => let_sm (h.1.2.2 c hc))
  unfold SeqAt.shaped
  rw [h1, h2]
  rfl
theorem kept_own (w : List Nat) : PyData.eqv (En.d (.kept w)) (Od.d .own) = false := by
  show ((Str.ofString "kept" == Str.ofString "own") && PyData.eqvAll [strD w] []) = false
  rw [show (Str.ofString "kept" == Str.ofString "own") = false by decide +kernel]
  rfl
def isAtO : Od → Bool
  | .en (.sp _ _) => true
  | _ => false
def spWorthsAt (K : PySem.W.Frag) : Sp := fun vs H Q _ => ∃ (p : Nat) (fv : V) (sd : Addr) (rs : List SRow) (mr : MRow) (r : SRow), vs = [.int p, fv, .ref sd] ∧ Fm K H fv sd rs mr ∧ r ∈ rs ∧ mr.places[p]? = some r.nm ∧
  ∀ (H' : Hp) (q t1 t2 : Addr), Same H H' → SqT K H' q [.ref t1, .ref t2] → SqT K H' t1 (nmV r.dn) → SqT K H' t2 (nmV r.up) → Q (.ref q) H'
def spIsAt (K : PySem.W.Frag) : Sp := fun vs H Q _ => ∃ (v : V) (o : Od), vs = [v] ∧ Dp K H v o.d ∧ Q (.bl (isAtO o)) H
def spIsKept (K : PySem.W.Frag) : Sp := fun vs H Q _ => ∃ (v fv : V) (sd : Addr) (rs : List SRow) (mr : MRow) (w : List Nat), vs = [v, fv, .ref sd] ∧ Dp K H v (En.d (.kept w)) ∧ Fm K H fv sd rs mr ∧ KeptOk rs mr w ∧ ∀ H', Same H H' → Q (.bl true) H'
def spIsTg (K : PySem.W.Frag) : Sp := fun vs H Q _ => ∃ (v fv : V) (sd : Addr) (rs : List SRow) (mr : MRow) (e : En), vs = [v, fv, .ref sd] ∧ Dp K H v e.d ∧ Fm K H fv sd rs mr ∧ TgOk rs mr e ∧ ∀ H', Same H H' → Q (.bl true) H'
def spIsOd (K : PySem.W.Frag) : Sp := fun vs H Q _ => ∃ (v fv : V) (sd : Addr) (rs : List SRow) (mr : MRow) (o : Od), vs = [v, fv, .ref sd] ∧ Dp K H v o.d ∧ Fm K H fv sd rs mr ∧ OdOk rs mr o ∧ ∀ H', Same H H' → Q (.bl true) H'
section
variable {P : Program} {w : World} {K : PySem.W.Frag} {mg : Str → Option Value} {base : Heap} {PD LA : Addr}
theorem ok_worths_at (T : Gb mg) (cis_number : C8.Cal P w K mg base 1 "is_number" (spIsNum K) []) (D : Dd K mg "worths_at" s_worths_at P_worths_at) : C8.Cal P w K mg base 2 "worths_at" (spWorthsAt K) [] := by
  refine D.cal sc_worths_at (fun vs H Q E h => ?_) (fun f cdv A outer s H vs Q E hr h => ?_)
  · obtain ⟨p, fv, sd, rs, mr, r, rfl, _⟩ := h
    rfl
  · obtain ⟨p, fv, sd, rs, mr, r, rfl, fm, hr1, hp, q⟩ := h
    obtain ⟨fq, t, rfl, hf, ht⟩ := fm.at_
    refine ⟨_, (pss_cons (ps_set (i := 3) sc_worths_at.nd rfl (Or.inl rfl) (pe_tup (pa_cons (pe_ix ix_tup (pv 1) pe_int (fun _ _ => rfl)) (StX.pa_star (pe_ix ix_tup (pv 1) pe_int (fun _ _ => rfl)) pa_nil))))
        (pss_cons (ps_if (PW.pt (pw_or (pt_not (pt_val (C8.pe_c cis_number hr (by decide) (by rfl) (pa_cons (pv 0) pa_nil)))) (pw_or1 (pt_cmpR op_ge (pv 0) (pe_callB call_len_seq (by rfl) T.len PySem.boot_len (pa_cons (pv 3) pa_nil)) (nomark _)))))
          (pss_one (ps_ret (pe_tup (pa_cons (pe_tup pa_nil) (pa_cons (pe_tup pa_nil) pa_nil)))))
          pss_nil)
        (pss_one (ps_ret (pe_dget (hu_of hr) (pv 2) (pe_ix ix_tup (pv 3) (pv 0) (fun _ _ => rfl)) (fun _ _ => rfl)))))), ?_⟩
    refine ⟨_, rfl, fq, _, 0, .str (SX.S mr.so), rfl, rfl, hf, atI_nat (j := 0) rfl, ?_⟩
    refine ⟨_, rfl, fq, _, 1, .ref t, rfl, rfl, hf, atI_nat (j := 1) rfl, t, nmV mr.pt, rfl, .inl ht, ?_⟩
    have e4 : V.str (SX.S mr.so) :: (nmV mr.pt ++ []) = nmV mr.places := by
      rw [List.append_nil]
      rfl
    have h2 := fm.mo.p2
    have lpl : mr.places.length ≤ 3 := by
      show mr.pt.length + 1 ≤ 3
      omega
    refine ⟨?_, fun p4 n4 => ?_⟩
    · show (V.str (SX.S mr.so) :: (nmV mr.pt ++ [])).length ≤ _
      rw [e4, nmV_len]
      exact Nat.le_trans lpl (by decide)
    have s4 := same_upd (o := .tup (V.str (SX.S mr.so) :: (nmV mr.pt ++ []))) n4
    have h4 : SqT K (upd H p4 (.tup (V.str (SX.S mr.so) :: (nmV mr.pt ++ [])))) p4 (nmV mr.places) := by
      rw [← e4]
      exact SqT.of upd_same
    have hpl : p < mr.places.length := (List.getElem?_eq_some_iff.mp hp).1
    refine ⟨_, rfl, _, .int p, rfl, .int _, _, rfl, ?_⟩
    refine ifF (by show (!decide ((0 : Int) ≤ (p : Int))) = false; rw [decide_eq_true (by omega)]; rfl) ?_
    refine ⟨_, rfl, _, rfl, p4, _, rfl, .inr h4, _, _, rfl, rfl, _, rfl, ?_⟩
    refine ifF (decide_eq_false (show ¬ ((nmV mr.places).length : Int) ≤ (p : Int) by rw [nmV_len]; omega)) ?_
    obtain ⟨pq, t1, t2, hg, hpq, h1, h2⟩ := (fm.same s4).get hr1
    exact ⟨_, rfl, _, rfl, _, rfl, p4, _, p, .str (SX.S r.nm), rfl, rfl, h4, atI_nat (nmV_at hp), sd, .ref pq, rfl, hg, q _ pq t1 t2 s4 hpq h1 h2⟩
theorem ok_is_at (cis_tuple_of : C8.Cal P w K mg base 1 "is_tuple_of" (spTupOf K) []) (D : Dd K mg "is_at" s_is_at P_is_at) : C8.Cal P w K mg base 2 "is_at" (spIsAt K) [] := by
  refine D.cal sc_is_at (fun vs H Q E h => ?_) (fun f cdv A outer s H vs Q E hr h => ?_)
  · obtain ⟨v, o, rfl, _⟩ := h
    rfl
  · obtain ⟨v, o, rfl, hd, q⟩ := h
    refine ⟨_, (pss_one (ps_ret (pe_and (C8.pe_c cis_tuple_of hr (by decide) (by rfl) (pa_cons (pv 0) (pa_cons pe_int pa_nil))) (pe_one (pe_cmpR op_eq (pe_ix ix_tup (pv 0) pe_int (fun _ _ => rfl)) pe_str (nomark _)))))), ?_⟩
    refine ⟨_, rfl, v, o.d, 3, rfl, hd, _, rfl, ?_⟩
    cases o with
    | own => exact iteF q
    | num n => exact iteF q
    | en e =>
      cases e with
      | kept w => exact iteF q
      | sp p w =>
        obtain ⟨q0, rfl, hq⟩ := sp_at hd
        refine iteT ?_
        exact ⟨_, rfl, q0, _, 0, .str "at", rfl, rfl, hq, atI_nat (j := 0) rfl, rfl, q⟩
theorem ok_is_kept (cis_tuple_of : C8.Cal P w K mg base 1 "is_tuple_of" (spTupOf K) []) (cis_name : C8.Cal P w K mg base 1 "is_name" spNameT []) (D : Dd K mg "is_kept" s_is_kept P_is_kept) : C8.Cal P w K mg base 2 "is_kept" (spIsKept K) [] := by
  refine D.cal sc_is_kept (fun vs H Q E h => ?_) (fun f cdv A outer s H vs Q E hr h => ?_)
  · obtain ⟨v, fv, sd, rs, mr, w, rfl, _⟩ := h
    rfl
  · obtain ⟨v, fv, sd, rs, mr, w, rfl, hd, fm, hk, q⟩ := h
    obtain ⟨fq, t, rfl, hf, ht⟩ := fm.at_
    obtain ⟨q0, rfl, hq⟩ := kp_at hd
    obtain ⟨r, hr1, hrn⟩ := fm.mo.so mr.so (List.mem_cons_self ..)
    obtain ⟨p, t1, t2, hg, hp, h1, h2⟩ := fm.get hr1
    rw [hrn] at hg
    refine ⟨_, (pss_cons (ps_if (PW.pt (pw_or (pt_not (pt_val (C8.pe_c cis_tuple_of hr (by decide) (by rfl) (pa_cons (pv 0) (pa_cons pe_int pa_nil))))) (pw_or1 (pt_cmpR op_ne (pe_ix ix_tup (pv 0) pe_int (fun _ _ => rfl)) pe_str (nomark _)))))
          (pss_one (ps_ret pe_bl))
          pss_nil)
        (pss_cons (ps_asg (pe_dget (hu_of hr) (pv 2) (pe_ix ix_tup (pv 1) pe_int (fun _ _ => rfl)) (fun _ _ => rfl)) (pg_tup rfl (pgs_cons (pg_name (i := 3) sc_is_kept.nd rfl (Or.inl rfl)) (pgs_cons (pg_name (i := 4) sc_is_kept.nd rfl (Or.inl rfl)) pgs_nil))))
        (pss_one (ps_ret (pe_and (C8.pe_c cis_name hr (by decide) (by rfl) (pa_cons (pe_ix ix_tup (pv 0) pe_int (fun _ _ => rfl)) pa_nil)) (pe_one (pe_cmpR op_notIn_seq (pe_ix ix_tup (pv 0) pe_int (fun _ _ => rfl)) (pe_op (r := rCatAny K) op_catAny (pv 3) (pv 4)) (by with_unfolding_all rfl)))))))), ?_⟩
    refine ⟨_, rfl, .ref q0, _, 2, rfl, hd, _, rfl, ifF rfl ?_⟩
    refine ⟨_, rfl, q0, _, 0, .str "kept", rfl, rfl, hq, atI_nat (j := 0) rfl, rfl, _, rfl, ifF rfl ?_⟩
    refine ⟨_, rfl, _, rfl, fq, _, 0, .str (SX.S mr.so), rfl, rfl, hf, atI_nat (j := 0) rfl, sd, .ref p, rfl, hg, ?_⟩
    refine ⟨p, _, rfl, hp, rfl, _, _, rfl, _, _, rfl, rfl, ?_⟩
    refine ⟨_, rfl, q0, _, 1, .str (SX.S w), rfl, rfl, hq, atI_nat (j := 1) rfl, w, rfl, hk.1, fun H1 s1 => ⟨_, rfl, iteT ?_⟩⟩
    have sok := fm.so.ok r hr1
    have hd2 := sok.d2
    have hu2 := sok.u2
    refine ⟨_, rfl, q0, _, 1, .str (SX.S w), rfl, rfl, sqT_s s1 hq, atI_nat (j := 1) rfl, ?_⟩
    refine ⟨_, rfl, _, rfl, t1, t2, nmV r.dn, nmV r.up, rfl, rfl, sqT_s s1 h1, sqT_s s1 h2, by rw [nmV_len, nmV_len]; exact Nat.le_trans (show _ ≤ 4 by omega) (by decide), fun H4 p4 s4 h4 => ?_⟩
    have e4 : nmV r.dn ++ nmV r.up = nmV (r.dn ++ r.up) := by
      unfold nmV
      rw [List.map_append]
    rw [e4] at h4
    refine ⟨p4, _, rfl, .inr h4, rfl, flat_names _, ?_⟩
    show Q (.bl (!inV (.str (SX.S w)) (nmV (r.dn ++ r.up)))) H4
    rw [in_names, decide_eq_false (hk.2 r hr1 hrn)]
    exact q _ (s1.trans s4)
theorem ok_is_target (cis_at : C8.Cal P w K mg base 2 "is_at" (spIsAt K) []) (cis_kept : C8.Cal P w K mg base 2 "is_kept" (spIsKept K) []) (cworths_at : C8.Cal P w K mg base 2 "worths_at" (spWorthsAt K) []) (D : Dd K mg "is_target" s_is_target P_is_target) : C8.Cal P w K mg base 3 "is_target" (spIsTg K) [] := by
  refine D.cal sc_is_target (fun vs H Q E h => ?_) (fun f cdv A outer s H vs Q E hr h => ?_)
  · obtain ⟨v, fv, sd, rs, mr, e, rfl, _⟩ := h
    rfl
  · obtain ⟨v, fv, sd, rs, mr, e, rfl, hd, fm, hk, q⟩ := h
    refine ⟨_, (pss_cons (ps_if (pt_not (pt_val (C8.pe_c cis_at hr (by decide) (by rfl) (pa_cons (pv 0) pa_nil))))
          (pss_one (ps_ret (C8.pe_c cis_kept hr (by decide) (by rfl) (pa_cons (pv 0) (pa_cons (pv 1) (pa_cons (pv 2) pa_nil))))))
          pss_nil)
        (pss_cons (ps_asg (C8.pe_c cworths_at hr (by decide) (by rfl) (pa_cons (pe_ix ix_tup (pv 0) pe_int (fun _ _ => rfl)) (pa_cons (pv 1) (pa_cons (pv 2) pa_nil)))) (pg_tup rfl (pgs_cons (pg_name (i := 3) sc_is_target.nd rfl (Or.inl rfl)) (pgs_cons (pg_name (i := 4) sc_is_target.nd rfl (Or.inl rfl)) pgs_nil))))
        (pss_one (ps_ret (pe_cmpR op_in_seq (pe_ix ix_tup (pv 0) pe_int (fun _ _ => rfl)) (pe_ifExp (pt_cmpR op_eq (pe_ix ix_tup (pv 0) pe_int (fun _ _ => rfl)) pe_int (nomark _)) (pv 4) (pv 3)) (by with_unfolding_all rfl)))))), ?_⟩
    refine ⟨_, rfl, v, .en e, rfl, hd, _, rfl, ?_⟩
    cases e with
    | kept w =>
      refine iteT ?_
      exact ⟨_, rfl, _, rfl, _, rfl, v, fv, sd, rs, mr, w, rfl, hd, fm, hk, q⟩
    | sp p w =>
      refine iteF ?_
      obtain ⟨q0, rfl, hq⟩ := sp_at hd
      obtain ⟨k, r, hpk, hr1, rfl, hw⟩ := hk
      refine ⟨_, rfl, q0, _, 1, .int (p : Nat), rfl, rfl, hq, atI_nat (j := 1) rfl, _, rfl, _, rfl, p, fv, sd, rs, mr, r, rfl, fm, hr1, hpk, fun H1 q1 t1 t2 s1 hq1 ht1 ht2 => ?_⟩
      refine ⟨q1, _, rfl, hq1, rfl, _, _, rfl, _, _, rfl, rfl, ?_⟩
      refine ⟨_, rfl, q0, _, 2, .str (SX.S w), rfl, rfl, sqT_s s1 hq, atI_nat (j := 2) rfl, ?_⟩
      refine ⟨_, rfl, q0, _, 1, .int (p : Nat), rfl, rfl, sqT_s s1 hq, atI_nat (j := 1) rfl, rfl, _, rfl, ?_⟩
      by_cases hp : p = 0
      · subst hp
        refine ifT rfl ?_
        refine ⟨_, rfl, t2, _, rfl, .inr ht2, rfl, flat_names _, ?_⟩
        show Q (.bl (inV (.str (SX.S w)) (nmV r.up))) H1
        rw [in_names, decide_eq_true (show w ∈ r.up from hw)]
        exact q _ s1
      · refine ifF (decide_eq_false (fun z => hp (by have := V.int.inj z; omega))) ?_
        refine ⟨_, rfl, t1, _, rfl, .inr ht1, rfl, flat_names _, ?_⟩
        show Q (.bl (inV (.str (SX.S w)) (nmV r.dn))) H1
        rw [decide_eq_false hp] at hw
        rw [in_names, decide_eq_true (show w ∈ r.dn from hw)]
        exact q _ s1
theorem ok_is_operand (cis_at : C8.Cal P w K mg base 2 "is_at" (spIsAt K) []) (cis_kept : C8.Cal P w K mg base 2 "is_kept" (spIsKept K) []) (cworths_at : C8.Cal P w K mg base 2 "worths_at" (spWorthsAt K) []) (cis_tuple_of : C8.Cal P w K mg base 1 "is_tuple_of" (spTupOf K) []) (cis_worth : C8.Cal P w K mg base 2 "is_worth" (spWorth K) []) (D : Dd K mg "is_operand" s_is_operand P_is_operand) : C8.Cal P w K mg base 3 "is_operand" (spIsOd K) [] := by
  refine D.cal sc_is_operand (fun vs H Q E h => ?_) (fun f cdv A outer s H vs Q E hr h => ?_)
  · obtain ⟨v, fv, sd, rs, mr, o, rfl, _⟩ := h
    rfl
  · obtain ⟨v, fv, sd, rs, mr, o, rfl, hd, fm, hk, q⟩ := h
    refine ⟨_, (pss_cons (ps_if (pt_val (C8.pe_c cis_at hr (by decide) (by rfl) (pa_cons (pv 0) pa_nil)))
          (pss_cons (ps_asg (C8.pe_c cworths_at hr (by decide) (by rfl) (pa_cons (pe_ix ix_tup (pv 0) pe_int (fun _ _ => rfl)) (pa_cons (pv 1) (pa_cons (pv 2) pa_nil)))) (pg_tup rfl (pgs_cons (pg_name (i := 3) sc_is_operand.nd rfl (Or.inl rfl)) (pgs_cons (pg_name (i := 4) sc_is_operand.nd rfl (Or.inl rfl)) pgs_nil))))
        (pss_one (ps_ret (pe_cmpR op_in_seq (pe_ix ix_tup (pv 0) pe_int (fun _ _ => rfl)) (pe_ifExp (pt_cmpR op_eq (pe_ix ix_tup (pv 0) pe_int (fun _ _ => rfl)) pe_int (nomark _)) (pv 3) (pv 4)) (by with_unfolding_all rfl)))))
          pss_nil)
        (pss_cons (ps_if (PW.pt (pw_and (pt_val (C8.pe_c cis_tuple_of hr (by decide) (by rfl) (pa_cons (pv 0) (pa_cons pe_int pa_nil)))) (pw_and1 (pt_cmpR op_eq (pe_ix ix_tup (pv 0) pe_int (fun _ _ => rfl)) pe_str (nomark _)))))
          (pss_one (ps_ret (C8.pe_c cis_worth hr (by decide) (by rfl) (pa_cons (pe_ix ix_tup (pv 0) pe_int (fun _ _ => rfl)) pa_nil))))
          pss_nil)
        (pss_one (ps_ret (pe_or (pe_cmpR (op_eqD hr.units) (pv 0) (pe_tup (pa_cons pe_str pa_nil)) (nomark _)) (pe_one (C8.pe_c cis_kept hr (by decide) (by rfl) (pa_cons (pv 0) (pa_cons (pv 1) (pa_cons (pv 2) pa_nil)))))))))), ?_⟩
    refine ⟨_, rfl, v, o, rfl, hd, _, rfl, ?_⟩
    cases o with
    | own =>
      refine iteF ?_
      refine ⟨_, rfl, v, _, 2, rfl, hd, _, rfl, ifF rfl ?_⟩
      refine ⟨_, rfl, by show 1 ≤ sizeLine; decide, fun p n => ?_⟩
      have s1 := same_upd (o := .tup [.str "own"]) n
      refine ⟨Od.d .own, Od.d .own, dp_same s1 hd, .tup (SqT.of upd_same) (.cons (.str _) .nil), own_sh, own_sh, _, rfl, ?_⟩
      rw [SeqAt.eqv_refl _ (SeqAt.canLay_of_shaped own_sh)]
      exact iteT (q _ s1)
    | num n =>
      refine iteF ?_
      obtain ⟨q0, rfl, hq⟩ := num_at hd
      refine ⟨_, rfl, .ref q0, _, 2, rfl, hd, _, rfl, ifT rfl ?_⟩
      refine ⟨_, rfl, q0, _, 0, .str "number", rfl, rfl, hq, atI_nat (j := 0) rfl, rfl, _, rfl, ifT rfl ?_⟩
      refine ⟨_, rfl, q0, _, 1, .int (n : Nat), rfl, rfl, hq, atI_nat (j := 1) rfl, _, .int (n : Nat), rfl, .int _, ?_⟩
      have e : worthB (.int (n : Nat)) = true := by
        show (decide ((0 : Int) ≤ (n : Int)) && decide ((n : Int) < 1000000)) = true
        have hk : n < 1000000 := hk
        rw [decide_eq_true (by omega), decide_eq_true (by omega)]
        rfl
      rw [e]
      exact q _ (Same.refl H)
    | en e =>
      cases e with
      | kept w =>
        refine iteF ?_
        obtain ⟨q0, rfl, hq⟩ := kp_at hd
        refine ⟨_, rfl, .ref q0, _, 2, rfl, hd, _, rfl, ifT rfl ?_⟩
        refine ⟨_, rfl, q0, _, 0, .str "kept", rfl, rfl, hq, atI_nat (j := 0) rfl, rfl, _, rfl, ifF rfl ?_⟩
        refine ⟨_, rfl, by show 1 ≤ sizeLine; decide, fun p n => ?_⟩
        have s1 := same_upd (o := .tup [.str "own"]) n
        refine ⟨En.d (.kept w), Od.d .own, dp_same s1 hd, .tup (SqT.of upd_same) (.cons (.str _) .nil), kept_sh hk.1, own_sh, _, rfl, ?_⟩
        rw [show PyData.eqv (En.d (.kept w)) (Od.d .own) = false from kept_own w]
        refine iteF ?_
        exact ⟨_, rfl, _, rfl, _, rfl, .ref q0, fv, sd, rs, mr, w, rfl, dp_same s1 hd, fm.same s1, hk, fun H' s' => q _ (s1.trans s')⟩
      | sp p w =>
        refine iteT ?_
        obtain ⟨q0, rfl, hq⟩ := sp_at hd
        obtain ⟨k, r, hpk, hr1, rfl, hw⟩ := hk
        refine ⟨_, rfl, q0, _, 1, .int (p : Nat), rfl, rfl, hq, atI_nat (j := 1) rfl, _, rfl, _, rfl, p, fv, sd, rs, mr, r, rfl, fm, hr1, hpk, fun H1 q1 t1 t2 s1 hq1 ht1 ht2 => ?_⟩
        refine ⟨q1, _, rfl, hq1, rfl, _, _, rfl, _, _, rfl, rfl, ?_⟩
        refine ⟨_, rfl, q0, _, 2, .str (SX.S w), rfl, rfl, sqT_s s1 hq, atI_nat (j := 2) rfl, ?_⟩
        refine ⟨_, rfl, q0, _, 1, .int (p : Nat), rfl, rfl, sqT_s s1 hq, atI_nat (j := 1) rfl, rfl, _, rfl, ?_⟩
        by_cases hp : p = 0
        · subst hp
          refine ifT rfl ?_
          refine ⟨_, rfl, t1, _, rfl, .inr ht1, rfl, flat_names _, ?_⟩
          show Q (.bl (inV (.str (SX.S w)) (nmV r.dn))) H1
          rw [in_names, decide_eq_true (show w ∈ r.dn from hw)]
          exact q _ s1
        · refine ifF (decide_eq_false (fun z => hp (by have := V.int.inj z; omega))) ?_
          refine ⟨_, rfl, t2, _, rfl, .inr ht2, rfl, flat_names _, ?_⟩
          show Q (.bl (inV (.str (SX.S w)) (nmV r.up))) H1
          rw [decide_eq_false hp] at hw
          rw [in_names, decide_eq_true (show w ∈ r.up from hw)]
          exact q _ s1
end
/-! ### a list is made longer by a tuple -/
open PySem PyProof in
theorem ext_tup (l : Addr) (items : Array Value) (n : Nat) (b : Addr) (items2 : Array Value) (n2 : Nat) (dd : Option Addr) (sl : Array (Option Value)) (hs0 : ¬(!items.isEmpty && Builtin.List.listTooLong (items.size + items2.size)) = true) (hs1 : items.size ≤ sizeLine) (hs2 : items.size + items2.size ≤ sizeLine + 1) :
    Meets (Builtin.«list.extend» ⟨[.ref l, .ref b], []⟩) (fun _ R s => s.heap.get? l = some { cls := .type "list", dict := none, data := .seq items n, slots := #[] } ∧ s.heap.get? b = some { cls := .type "tuple", dict := dd, data := .seq items2 n2, slots := sl } ∧ R (.ok (.ret Value.none)) { s with heap := s.heap.update l (Obj.mapSeq fun x => x ++ items2), toks := s.toks }) :=
  .of_wp fun prog w A R s h => by
    obtain ⟨hp, g, d, tk, os⟩ := s; obtain ⟨hl, hb, h⟩ := h; have f1 := AutoSeq1.idx_int; have f2 := AutoSeq1.sub_tuple_tuple; have f3 := AutoSeq1.sub_list_list; have f4 := AutoSeq1.sub_tuple_list; have f5 := AutoSeq1.sub_list_tuple;
    have hz' : (items ++ items2).size ≤ sizeLine + 1 := by rw [Array.size_append]; exact hs2
    wp_walk using (wpAny_updateSeq hl rfl (hz := hs1) (_hz' := hz')), wpAny_loadPart' hl, wpAny_loadPart' hb; exact ⟨_, rfl, h⟩
section
variable {X : Cx}
def rExtendT (K : PySem.W.Frag) : V → List V → Hp → VK → Prop := fun x vs H Q => ∃ l b xs zs, x = .ref l ∧ vs = [.ref b] ∧ H l = some (.lst xs) ∧ SqT K H b zs ∧ xs.length + zs.length ≤ sizeLine ∧ Q .non (upd H l (.lst (xs ++ zs)))
theorem mt_extendT : MtM X "list.extend" (rExtendT X.K) := by
  intro pins s σ H x vs v us Q I rx rv h
  obtain ⟨l, b, xs, zs, rfl, rfl, hH, hB, hz, q⟩ := h
  cases rx
  obtain ⟨u, rfl, ru⟩ := rv.one
  cases ru
  obtain ⟨z, its, n, r, hl, e⟩ := I.lstM hH
  obtain ⟨its2, ⟨c2, d2, dt2, sl2⟩, n2, r2, e2, rfl, rfl⟩ := sqT_at I.hok I.kIn hB
  have l2 := r2.length
  have hsz : its.toArray.size + its2.toArray.size ≤ sizeLine := by rw [List.size_toArray, List.size_toArray]; omega
  have hlong : ¬ (!its.toArray.isEmpty && Builtin.List.listTooLong (its.toArray.size + its2.toArray.size)) = true := by
    rw [notLongL hsz, Bool.and_false]
    exact Bool.false_ne_true
  refine call_meets PySem.F.slot_list_extend ⟨_, e, rfl⟩ PySem.F.entry_list_extend (PySem.F.args_list_extend_2 _ _)
    (ext_tup l its.toArray n b its2.toArray n2 d2 sl2 hlong (by rw [List.size_toArray]; omega) (by omega)) ⟨e, e2, ?_⟩
  refine ⟨.non, _, I.lset (its' := its ++ its2) hH e (by simp) (r.append r2) ?_, rfl, q⟩
  rw [List.length_append]
  omega
end
abbrev s_kept_by : Stmt := top 42
abbrev N_kept_by : List Str := ["making", "rules", "terms", "whose", "target", "term"]
abbrev P_kept_by : List Str := ["making", "rules"]
theorem sc_kept_by : FnScope N_kept_by P_kept_by (defScope s_kept_by) := ⟨rfl, rfl, rfl, by decide +kernel, rfl, by decide +kernel, by decide +kernel⟩
theorem hu9 {n : Nat} (h : n + 65 < cLine) : n + 9 < cLine := by omega
/-! ### the table of rules -/
def RRow.kd (r : RRow) : PyData := .tuple [strD r.ma, r.tg.d]
def RRow.vd (r : RRow) : PyData := .tuple [strD r.op, .tuple (r.os.map Od.d)]
theorem RRow.kd_imm (r : RRow) : Thr.imm r.kd = true := by
  show (true && (Thr.imm r.tg.d && true)) = true
  rw [r.tg.imm]
  rfl
theorem RRow.vd_imm (r : RRow) : Thr.imm r.vd = true := by
  show (true && (immAll (r.os.map Od.d) && true)) = true
  rw [immAll_map Od.imm]
  rfl
theorem en_key {e e' : En} (h : keyD e.d = keyD e'.d) : e = e' := by
  cases e with
  | sp p w =>
    cases e' with
    | sp p' w' =>
      have h1 : NestedKey.tup [.text "at", .num (p : Int), .text (SX.S w)] = NestedKey.tup [.text "at", .num (p' : Int), .text (SX.S w')] := h
      simp only [NestedKey.tup.injEq, List.cons.injEq, NestedKey.num.injEq, NestedKey.text.injEq, and_true, true_and] at h1
      rw [SX.S_inj h1.2, Int.ofNat.inj h1.1]
    | kept w' =>
      have h1 : NestedKey.tup [.text "at", .num (p : Int), .text (SX.S w)] = NestedKey.tup [.text "kept", .text (SX.S w')] := h
      simp at h1
  | kept w =>
    cases e' with
    | sp p' w' =>
      have h1 : NestedKey.tup [.text "kept", .text (SX.S w)] = NestedKey.tup [.text "at", .num (p' : Int), .text (SX.S w')] := h
      simp at h1
    | kept w' =>
      have h1 : NestedKey.tup [.text "kept", .text (SX.S w)] = NestedKey.tup [.text "kept", .text (SX.S w')] := h
      simp only [NestedKey.tup.injEq, List.cons.injEq, NestedKey.text.injEq, and_true, true_and] at h1
      rw [SX.S_inj h1]
theorem kd_inj {ma ma' : List Nat} {e e' : En} (h : keyD (.tuple [strD ma, e.d]) = keyD (.tuple [strD ma', e'.d])) : ma = ma' ∧ e = e' := by
  have h1 : NestedKey.tup [.text (SX.S ma), keyD e.d] = NestedKey.tup [.text (SX.S ma'), keyD e'.d] := h
  simp only [NestedKey.tup.injEq, List.cons.injEq, NestedKey.text.injEq, and_true] at h1
  exact ⟨SX.S_inj h1.1, en_key h1.2⟩
def RPr (K : PySem.W.Frag) (H : Hp) (kvs : List NE) (ru : List RRow) : Prop := Paired (fun p r => p.1 = keyD r.kd ∧ Dp K H (.ref p.2.1) r.kd ∧ Dp K H p.2.2 r.vd) kvs ru
theorem RPr.keys {K : PySem.W.Frag} {H : Hp} : ∀ {kvs : List NE} {ru : List RRow}, RPr K H kvs ru → KeysN K H kvs
  | _, _, .nil => KeysN.nil
  | _, _, .cons (b := r) a h => fun p hp => by
    rcases List.mem_cons.mp hp with rfl | hp
    · exact ⟨r.kd, a.1, a.2.1, r.kd_imm, key_depth _ _⟩
    · exact RPr.keys h p hp
theorem RPr.keep {K : PySem.W.Frag} {H H' : Hp} (k : KeepT H H') {kvs : List NE} {ru : List RRow} (h : RPr K H kvs ru) : RPr K H' kvs ru :=
  paired_mono (fun _ r a => ⟨a.1, dp_imm k a.2.1 r.kd_imm, dp_imm k a.2.2 r.vd_imm⟩) h
theorem RPr.none {K : PySem.W.Frag} {H : Hp} {ma : List Nat} {e : En} : ∀ {kvs : List NE} {ru : List RRow}, RPr K H kvs ru → (∀ r ∈ ru, r.ma = ma → r.tg ≠ e) → valN kvs (keyD (.tuple [strD ma, e.d])) = Option.none
  | _, _, .nil, _ => rfl
  | _, _, .cons (a := p) (b := r) a h, hn => by
    show (if p.1 = _ then some p.2.2 else valN _ _) = Option.none
    rw [if_neg, RPr.none h fun r' hr' => hn r' (List.mem_cons_of_mem _ hr')]
    intro z
    obtain ⟨z1, z2⟩ := kd_inj (a.1.symm.trans z)
    exact hn r (List.mem_cons_self ..) z1 z2
/-- rules of one making have unlike targets -/
def RuNd (ru : List RRow) : Prop := ru.Pairwise fun r r' => r.ma = r'.ma → r.tg ≠ r'.tg
theorem RPr.val {K : PySem.W.Frag} {H : Hp} {r : RRow} : ∀ {kvs : List NE} {ru : List RRow}, RPr K H kvs ru → RuNd ru → r ∈ ru → ∃ v, valN kvs (keyD r.kd) = some v ∧ Dp K H v r.vd
  | _, _, .nil, _, h => nomatch h
  | _, _, .cons (a := p) (b := r0) a h, hn, hm => by
    unfold RuNd at hn
    rw [List.pairwise_cons] at hn
    rcases List.mem_cons.mp hm with rfl | hm
    · exact ⟨p.2.2, if_pos a.1, a.2.2⟩
    · obtain ⟨v, e, hd⟩ := RPr.val h hn.2 hm
      refine ⟨v, ?_, hd⟩
      show (if p.1 = _ then some p.2.2 else valN _ _) = some v
      rw [if_neg, e]
      intro z
      obtain ⟨z1, z2⟩ := kd_inj (a.1.symm.trans z)
      exact hn.1 r hm z1 z2
theorem RPr.at_ {K : PySem.W.Frag} {H : Hp} {p : NE} : ∀ {kvs : List NE} {ru : List RRow} {i : Nat}, RPr K H kvs ru → kvs[i]? = some p → ∃ r, ru[i]? = some r ∧ Dp K H (.ref p.2.1) r.kd
  | _, _, _, .nil, h => by cases h
  | _, _, 0, .cons (b := r) a _, h => by
    cases h
    exact ⟨r, rfl, a.2.1⟩
  | _, _, i + 1, .cons _ rr, h => by
    obtain ⟨r, e, hd⟩ := RPr.at_ (i := i) rr h
    exact ⟨r, e, hd⟩
/-- what a rule names -/
def rOds (r : RRow) : List Od := .en r.tg :: r.os
def odsOf (m : List Nat) (ru : List RRow) : List Od := (ru.filter fun r => decide (r.ma = m)).flatMap rOds
def keptNames (m : List Nat) (ru : List RRow) : List (List Nat) := (odsOf m ru).flatMap odName
theorem odsOf_snoc (m : List Nat) (ru : List RRow) (r : RRow) : odsOf m (ru ++ [r]) = odsOf m ru ++ (if r.ma = m then rOds r else []) := by
  unfold odsOf
  rw [List.filter_append, List.flatMap_append]
  by_cases h : r.ma = m
  · rw [if_pos h]
    simp [h]
  · rw [if_neg h]
    simp [h]
theorem kd_at {K : PySem.W.Frag} {H : Hp} {b : Addr} {r : RRow} (h : Dp K H (.ref b) r.kd) : ∃ v, SqT K H b [.str (SX.S r.ma), v] ∧ Dp K H v r.tg.d := by
  cases h with
  | tup hS hA =>
    cases hA with
    | cons a1 hA =>
      cases hA with
      | cons a2 hA =>
        cases hA
        cases a1
        exact ⟨_, hS, a2⟩
theorem vd_at {K : PySem.W.Frag} {H : Hp} {v : V} {r : RRow} (h : Dp K H v r.vd) : ∃ q t us, v = .ref q ∧ SqT K H q [.str (SX.S r.op), .ref t] ∧ SqT K H t us ∧ DpAll K H us (r.os.map Od.d) := by
  cases h with
  | tup hS hA =>
    cases hA with
    | cons a1 hA =>
      cases hA with
      | cons a2 hA =>
        cases hA
        cases a1
        cases a2 with
        | tup hS2 hA2 => exact ⟨_, _, _, rfl, hS, hS2, hA2⟩
theorem KeepT.ext {P : Program} {w : World} {H Y : Hp} {rd : Addr} {kvs : List NE} (hrd : H rd = some (dnO P w rd kvs)) (b : But rd H Y) : KeepT H Y := fun c o ht hc => b c o (fun z => by
  rw [z, hrd] at hc
  have hc := Option.some.inj hc
  subst hc
  rcases ht with ⟨_, e⟩ | ⟨_, _, e⟩
  · cases e
  · cases e) hc
theorem ods_len {m : List Nat} {ru : List RRow} (h : ∀ r ∈ ru, r.os.length ≤ 3) : ∀ j, (odsOf m (ru.take j)).length ≤ 4 * j := fun j => by
  induction j with
  | zero => exact Nat.le_refl _
  | succ j ih =>
    rw [List.take_add_one]
    cases e : ru[j]? with
    | none =>
      rw [Option.toList_none, List.append_nil]
      omega
    | some r =>
      have := h r (List.mem_of_getElem? e)
      rw [Option.toList_some, odsOf_snoc, List.length_append]
      split
      · show _ + (r.os.length + 1) ≤ _
        omega
      · show _ + 0 ≤ _
        omega
theorem names_len : ∀ os : List Od, (os.flatMap odName).length ≤ os.length
  | [] => Nat.le_refl _
  | o :: os => by
    rw [List.flatMap_cons, List.length_append, List.length_cons]
    have := names_len os
    have h1 : (odName o).length ≤ 1 := by
      cases o with
      | own => exact Nat.zero_le _
      | num n => exact Nat.zero_le _
      | en e =>
        cases e with
        | sp p w => exact Nat.zero_le _
        | kept w => exact Nat.le_refl _
    omega
def spKeptBy (K : PySem.W.Frag) (P : Program) (w : World) : Sp := fun vs H Q _ => ∃ (m : List Nat) (rd : Addr) (kvs : List NE) (ru : List RRow), vs = [.str (SX.S m), .ref rd] ∧ H rd = some (dnO P w rd kvs) ∧ RPr K H kvs ru ∧ RuNd ru ∧ ru.length ≤ 240 ∧ (∀ r ∈ ru, r.os.length ≤ 3) ∧ (gotTx ((keptNames m ru).map SX.S)).length < 64 ∧
  ∀ (H' : Hp) (l : Addr) (ys : List Str), Same H H' → H l = none → H' l = some (.lst (ys.map V.str)) → ys.Perm (gotTx ((keptNames m ru).map SX.S)) → sortedS ys = true → Q (.ref l) H'
section
variable {P : Program} {w : World} {K : PySem.W.Frag} {mg : Str → Option Value} {base : Heap} {PD LA : Addr}
theorem ok_kept_by (T : Gb mg) (D : Dd K mg "kept_by" s_kept_by P_kept_by) : C8.Cal P w K mg base 1 "kept_by" (spKeptBy K P w) [] := by
  refine D.cal sc_kept_by (fun vs H Q E h => ?_) (fun f cdv A outer s H vs Q E hr h => ?_)
  · obtain ⟨m, rd, kvs, ru, rfl, _⟩ := h
    rfl
  · obtain ⟨m, rd, kvs, ru, rfl, hrd, hpr, hnd, hle, hos, hfew, q⟩ := h
    refine ⟨_, (pss_cons (ps_set (i := 2) sc_kept_by.nd rfl (Or.inl rfl) (pe_lst pa_nil))
        (pss_cons (ps_lock (ps_for PassesOwn.never rfl (pi_keysN (pv 1)) (pg_tup rfl (pgs_cons (pg_name (i := 3) sc_kept_by.nd rfl (Or.inl rfl)) (pgs_cons (pg_name (i := 4) sc_kept_by.nd rfl (Or.inl rfl)) pgs_nil)))
          (pss_one (ps_if (pt_cmpR op_eq (pv 3) (pv 0) (nomark _))
          (pss_cons (ps_expr (pe_bm PySem.F.plainAttrs_list PySem.F.slot_list_append PySem.F.type_list_append mt_append (pv 2) (pa_cons (pv 4) pa_nil)))
        (pss_one (ps_expr (pe_bm PySem.F.plainAttrs_list PySem.F.slot_list_extend PySem.F.type_list_extend mt_extendT (pv 2) (pa_cons (pe_ix (r := rIxT K) ix_tup (pe_dgetN (hu9 (hu65 hr)) (pv 1) (pe_tup (pa_cons (pv 3) (pa_cons (pv 4) pa_nil))) (fun _ _ => rfl)) pe_int (fun _ _ => rfl)) pa_nil)))))
          pss_nil))))
        (pss_one (ps_ret (pe_callB (cr_sortTx rfl) (by rfl) T.sorted (by decide +kernel) (pa_cons (pe_callTy (cr_setTx rfl) (by rfl) T.set (by decide +kernel) (pa_cons (pe_lc (own := [("term", 5)]) (by exact rfl) sc_kept_by.nd (pi_list (pv 2)) (blkOk_by (own := [("term", 5)]) (N := N_kept_by) (sc := defScope s_kept_by) (by decide +kernel)) (fun _ _ _ _ _ => (pg_name (i := 5) sc_kept_by.nd rfl (Or.inl rfl))) (fun _ _ _ _ _ => (pts_one (pt_cmpR op_eq (pe_ix (r := rIxT K) ix_tup (pv 5) pe_int (fun _ _ => rfl)) pe_str (nomark _)))) (fun _ _ _ _ _ => (pe_ix (r := rIxT K) ix_tup (pv 5) pe_int (fun _ _ => rfl)))) pa_nil)) pa_nil)))))), ?_⟩
    refine ⟨by show 0 ≤ sizeLine; decide, fun l nl => ?_⟩
    have s1 := same_upd (o := .lst []) nl
    have nlr : l ≠ rd := fun z => by
      rw [z, hrd] at nl
      cases nl
    have lk : kvs.length = ru.length := paired_len hpr
    have olen : ∀ j, (odsOf m (ru.take j)).length ≤ 4 * j := ods_len hos
    refine ⟨rd, dnO P w rd kvs, s1 _ _ hrd, trivial, fun od => ?_⟩
    refine ⟨_, rfl, rd, od, kvs, rfl, upd_same, ?_⟩
    refine for_it walk_keysN (fun j σ Y => ∃ (y3 y4 y5 : Option V) (tv : List V), σ = [some (.str (SX.S m)), some (.ref rd), some (.ref l), y3, y4, y5] ∧ Y rd = some (.frz od (dnO P w rd kvs)) ∧ But rd H Y ∧ Y l = some (.lst tv) ∧ DpAll K H tv ((odsOf m (ru.take j)).map Od.d))
      ⟨none, none, none, [], rfl, upd_same, fun b o nb hb => by rw [upd_ne nb]; exact s1 _ _ hb, by rw [upd_ne nlr]; exact upd_same, .nil⟩ (fun j σ Y _ ⟨_, _, _, _, _, h, _⟩ => h) ?_ ?_
    · rintro j v σ Y0 Y hj ⟨y3, y4, y5, tv, rfl, hfz, bt, hl, hd⟩ ⟨rfl, p, hp, rfl⟩
      obtain ⟨r, hr1, hk⟩ := hpr.at_ hp
      have kH := KeepT.ext hrd bt
      obtain ⟨tgv, hS, htg⟩ := kd_at hk
      have tk : ru.take (j + 1) = ru.take j ++ [r] := by rw [List.take_add_one, hr1]; rfl
      have ltv := dpAll_len hd
      rw [List.length_map] at ltv
      have ol := olen j
      have hjr : j < ru.length := (List.getElem?_eq_some_iff.mp hr1).1
      refine ⟨p.2.1, _, rfl, kH.seqT hS, rfl, _, _, rfl, _, _, rfl, rfl, ?_⟩
      refine ⟨_, rfl, _, rfl, rfl, _, rfl, ?_⟩
      by_cases hm : r.ma = m
      · refine ifT (decide_eq_true (by rw [hm])) ?_
        obtain ⟨vv, hv, hvd⟩ := hpr.val hnd (List.mem_of_getElem? hr1)
        obtain ⟨q0, t, us, rfl, hq0, ht, hus⟩ := vd_at hvd
        have lus := dpAll_len hus
        rw [List.length_map] at lus
        have h3 := hos r (List.mem_of_getElem? hr1)
        refine ⟨_, rfl, .inl ⟨rfl, _, SqL.of hl⟩, ?_⟩
        refine ⟨_, rfl, l, tv, tgv, rfl, rfl, hl, small1000 (by omega), ?_⟩
        refine ⟨_, rfl, .inl ⟨rfl, _, SqL.of upd_same⟩, ?_⟩
        have btA : But rd H (upd Y l (.lst (tv ++ [tgv]))) := fun b o nb hb => by
          rw [upd_ne (ne_of_none hb nl)]
          exact bt b o nb hb
        refine ⟨_, rfl, _, rfl, _, rfl, by show 2 ≤ sizeLine; decide, fun b nb => ?_⟩
        have btB : But rd H (upd (upd Y l (.lst (tv ++ [tgv]))) b (.tup [.str (SX.S r.ma), tgv])) := fun c o nc hc => by
          rw [upd_ne (ne_of_none (btA c o nc hc) nb)]
          exact btA c o nc hc
        have nbl : l ≠ b := fun z => by
          rw [← z, upd_same] at nb
          cases nb
        have nbr : rd ≠ b := fun z => by
          rw [← z, upd_ne (Ne.symm nlr), hfz] at nb
          cases nb
        have kB := KeepT.ext hrd btB
        refine ⟨rd, b, kvs, r.kd, .ref q0, rfl, .inr ⟨od, by rw [upd_ne nbr, upd_ne (Ne.symm nlr)]; exact hfz⟩, hpr.keys.keep kB, ⟨rfl, .tup (SqT.of upd_same) (.cons (.str _) (.cons (dp_imm kB htg r.tg.imm) .nil)), r.kd_imm, key_depth _ _⟩, hv, ?_⟩
        refine ⟨q0, _, 1, .ref t, rfl, rfl, kB.seqT hq0, atI_nat (j := 1) rfl, ?_⟩
        refine ⟨l, t, tv ++ [tgv], us, rfl, rfl, by rw [upd_ne nbl]; exact upd_same, kB.seqT ht, by rw [List.length_append, List.length_singleton]; exact Nat.le_of_lt (small1000 (by omega)), ?_⟩
        refine ⟨_, _, _, _, rfl, ?_, ?_, upd_same, ?_⟩
        · rw [upd_ne (Ne.symm nlr), upd_ne nbr, upd_ne (Ne.symm nlr)]
          exact hfz
        · intro c o nc hc
          rw [upd_ne (ne_of_none hc nl)]
          exact btB c o nc hc
        · rw [tk, odsOf_snoc, if_pos hm, List.map_append, List.append_assoc]
          exact dpAll_appI hd (.cons htg hus)
      · refine ifF (decide_eq_false (fun z => hm (SX.S_inj (V.str.inj z)))) ?_
        refine ⟨_, _, _, tv, rfl, hfz, bt, hl, ?_⟩
        rw [tk, odsOf_snoc, if_neg hm, List.append_nil]
        exact hd
    · rintro σ Y ⟨y3, y4, y5, tv, rfl, hfz, bt, hl, hd⟩
      refine ⟨hfz, ?_⟩
      rw [lk, List.take_length] at hd
      have sZ : Same H (upd Y rd (dnO P w rd kvs)) := fun b o hb => by
        by_cases z : b = rd
        · rw [z, upd_same, ← hrd, ← z]
          exact hb
        · rw [upd_ne z]
          exact bt b o z hb
      have hlZ : (upd Y rd (dnO P w rd kvs)) l = some (.lst tv) := by
        rw [upd_ne nlr]
        exact hl
      obtain ⟨Z, eZ⟩ : ∃ Z, Z = upd Y rd (dnO P w rd kvs) := ⟨_, rfl⟩
      rw [← eZ] at sZ hlZ ⊢
      clear eZ hl bt hfz
      have ltv := dpAll_len hd
      rw [List.length_map] at ltv
      have ol := olen ru.length
      rw [List.take_length] at ol
      refine ⟨_, rfl, l, rfl, ⟨_, SqL.of hlZ⟩, fun D nD => ?_⟩
      refine lc_list (K := K) (a := l) (xs := tv) (fun j U => Same Z U ∧ U D = some (.lst (((((odsOf m ru).take j).flatMap odName).map SX.S).map V.str))) ⟨same_upd nD, upd_same⟩ (fun j U _ h => SqL.of (h.1 _ _ hlZ)) ?_ ?_
      · rintro j x U hx ⟨sU, hD⟩
        obtain ⟨o, ho, hxd⟩ := row_of hd hx
        have hxU := dp_same (sZ.trans sU) hxd
        have tk : (odsOf m ru).take (j + 1) = (odsOf m ru).take j ++ [o] := by rw [List.take_add_one, ho]; rfl
        have hj : j < (odsOf m ru).length := (List.getElem?_eq_some_iff.mp ho).1
        have small : ((((odsOf m ru).take j).flatMap odName).map SX.S).length ≤ 4 * 240 := by
          rw [List.length_map]
          refine Nat.le_trans (names_len _) ?_
          rw [List.length_take]
          omega
        refine ⟨rfl, ?_⟩
        rw [tk, List.flatMap_append, List.map_append, List.map_append]
        cases o with
        | own =>
          cases hxU with
          | tup hS hA =>
            cases hA with
            | cons a1 hA =>
              cases hA
              cases a1
              refine ⟨_, rfl, _, _, 0, .str "own", rfl, rfl, hS, atI_nat (j := 0) rfl, rfl, _, rfl, ifF (by decide +kernel) ⟨sU, ?_⟩⟩
              rw [show (List.flatMap odName [Od.own]) = [] from rfl, List.map_nil, List.map_nil, List.append_nil]
              exact hD
        | num n =>
          obtain ⟨q0, rfl, hq⟩ := num_at hxU
          refine ⟨_, rfl, q0, _, 0, .str "number", rfl, rfl, hq, atI_nat (j := 0) rfl, rfl, _, rfl, ifF (by decide +kernel) ⟨sU, ?_⟩⟩
          rw [show (List.flatMap odName [Od.num n]) = [] from rfl, List.map_nil, List.map_nil, List.append_nil]
          exact hD
        | en e =>
          cases e with
          | sp p w =>
            obtain ⟨q0, rfl, hq⟩ := sp_at hxU
            refine ⟨_, rfl, q0, _, 0, .str "at", rfl, rfl, hq, atI_nat (j := 0) rfl, rfl, _, rfl, ifF (by decide +kernel) ⟨sU, ?_⟩⟩
            rw [show (List.flatMap odName [Od.en (.sp p w)]) = [] from rfl, List.map_nil, List.map_nil, List.append_nil]
            exact hD
          | kept w =>
            obtain ⟨q0, rfl, hq⟩ := kp_at hxU
            refine ⟨_, rfl, q0, _, 0, .str "kept", rfl, rfl, hq, atI_nat (j := 0) rfl, rfl, _, rfl, ifT rfl ?_⟩
            refine ⟨_, rfl, q0, _, 1, .str (SX.S w), rfl, rfl, hq, atI_nat (j := 1) rfl, ?_⟩
            refine ⟨_, hD, small1000 (by rw [List.length_map]; omega), Same.at_ sU nD, ?_⟩
            rw [upd_same]
            rfl
      · rintro U ⟨sU, hD⟩
        rw [ltv, List.take_length] at hD
        have few : (keptNames m ru).length ≤ 1000 := by
          refine Nat.le_trans (names_len _) ?_
          omega
        refine ⟨D, (keptNames m ru).map SX.S, rfl, .inl (SqL.of hD), by rw [List.length_map]; exact few, fun p np => ?_⟩
        refine ⟨p, _, rfl, upd_same, hfew, fun ys p2 hys hso np2 => ?_⟩
        have sA := sZ.trans (sU.trans (same_upd (o := setTxO w p (gotTx ((keptNames m ru).map SX.S))) np))
        exact q _ p2 ys (sA.trans (same_upd np2)) (sA.free np2) upd_same hys hso
end
abbrev s_rule_is_so : Stmt := top 43
abbrev N_rule_is_so : List Str := ["row", "makings", "sorts", "cap", "making", "target", "op", "operands", "form", "operand"]
abbrev P_rule_is_so : List Str := ["row", "makings", "sorts", "cap"]
theorem sc_rule_is_so : FnScope N_rule_is_so P_rule_is_so (defScope s_rule_is_so) := ⟨rfl, rfl, rfl, by decide +kernel, rfl, by decide +kernel, by decide +kernel⟩
abbrev s_rules_in : Stmt := top 44
abbrev N_rules_in : List Str := ["rows", "makings", "sorts", "cap", "rules", "number", "row"]
abbrev P_rules_in : List Str := ["rows", "makings", "sorts", "cap"]
theorem sc_rules_in : FnScope N_rules_in P_rules_in (defScope s_rules_in) := ⟨rfl, rfl, rfl, by decide +kernel, rfl, by decide +kernel, by decide +kernel⟩
/-- the two tables -/
structure Tbs (K : PySem.W.Frag) (H : Hp) (md sd : Addr) (rs : List SRow) (ms : List MRow) : Prop where
  m : ∃ kvs, H md = some (.dK kvs) ∧ Tab K H kvs (ms.map mT)
  s : ∃ skv, H sd = some (.dK skv) ∧ Tab K H skv (rs.map sT)
  so : SortsOk rs
  nd : (ms.map MRow.nm).Nodup
  ok : ∀ m ∈ ms, MOk rs m
theorem Tbs.same {K : PySem.W.Frag} {H H' : Hp} {md sd : Addr} {rs : List SRow} {ms : List MRow} (s : Same H H') (h : Tbs K H md sd rs ms) : Tbs K H' md sd rs ms := by
  obtain ⟨skv, h1, h2⟩ := h.s
  obtain ⟨kvs, h3, h4⟩ := h.m
  exact ⟨⟨kvs, s _ _ h3, h4.keep (KeepT.of s) (fun t ht => by obtain ⟨r', _, e⟩ := List.mem_map.mp ht; rw [← e]; exact mT_imm r')⟩, ⟨skv, s _ _ h1, h2.keep (KeepT.of s) (fun t ht => by obtain ⟨r', _, e⟩ := List.mem_map.mp ht; rw [← e]; exact sT_imm r')⟩, h.so, h.nd, h.ok⟩
theorem Tbs.get {K : PySem.W.Frag} {H : Hp} {md sd : Addr} {rs : List SRow} {ms : List MRow} (h : Tbs K H md sd rs ms) {mr : MRow} (hm : mr ∈ ms) : ∃ v, DGet H md (.str (SX.S mr.nm)) (some v) ∧ Fm K H v sd rs mr := by
  obtain ⟨kvs, h3, h4⟩ := h.m
  obtain ⟨v, e, hd⟩ := h4.val (t := mT mr) (by rw [mT_k]; exact h.nd) (List.mem_map_of_mem hm)
  have hg := DGet.k (k := kS mr.nm) h3
  rw [show kS mr.nm = kS (mT mr).k from rfl, e] at hg
  exact ⟨v, hg, hd, h.s, h.so, h.ok mr hm⟩
structure RuleOk (rs : List SRow) (ms : List MRow) (roof : Nat) (r : RRow) : Prop where
  ex : ∃ mr ∈ ms, r.ma = mr.nm ∧ TgOk rs mr r.tg ∧ ∀ o ∈ r.os, OdOk rs mr o
  op : r.op ∈ opsOf roof
  ar : r.os.length = arOf r.op
theorem op_of {op : List Nat} {roof : Nat} (h : op ∈ opsOf roof) : ∃ o : Op, SX.S op = o.w ∧ arOf op = o.n ∧ (roof = 0 ∨ fineb o = true) := by
  have h4 : op ∈ OPS4 → ∃ o : Op, SX.S op = o.w ∧ arOf op = o.n ∧ fineb o = true := fun h => by
    unfold OPS4 at h
    simp only [List.mem_cons, List.not_mem_nil, or_false] at h
    rcases h with rfl | rfl | rfl | rfl
    · exact ⟨.copy, sl_S _, by decide +kernel, rfl⟩
    · exact ⟨.plus, sl_S _, by decide +kernel, rfl⟩
    · exact ⟨.least, sl_S _, by decide +kernel, rfl⟩
    · exact ⟨.most, sl_S _, by decide +kernel, rfl⟩
  unfold opsOf at h
  by_cases hr : roof = 0
  · rw [if_pos hr] at h
    rcases List.mem_append.mp h with h | h
    · obtain ⟨o, h1, h2, _⟩ := h4 h
      exact ⟨o, h1, h2, .inl hr⟩
    · unfold OPS8 at h
      simp only [List.mem_cons, List.not_mem_nil, or_false] at h
      rcases h with rfl | rfl | rfl | rfl | rfl | rfl | rfl | rfl
      · exact ⟨.plus, sl_S _, by decide +kernel, .inl hr⟩
      · exact ⟨.less, sl_S _, by decide +kernel, .inl hr⟩
      · exact ⟨.times, sl_S _, by decide +kernel, .inl hr⟩
      · exact ⟨.over, sl_S _, by decide +kernel, .inl hr⟩
      · exact ⟨.rest, sl_S _, by decide +kernel, .inl hr⟩
      · exact ⟨.same, sl_S _, by decide +kernel, .inl hr⟩
      · exact ⟨.under, sl_S _, by decide +kernel, .inl hr⟩
      · exact ⟨.pick, sl_S _, by decide +kernel, .inl hr⟩
  · rw [if_neg hr] at h
    obtain ⟨o, h1, h2, h3⟩ := h4 h
    exact ⟨o, h1, h2, .inr h3⟩
theorem op_n3 (o : Op) : o.n ≤ 3 := by cases o <;> decide
theorem rr4 {K : PySem.W.Frag} {H : Hp} {v : V} {r : RRow} (h : Dp K H v r.d) : ∃ q v2 t us, v = .ref q ∧ SqT K H q [.str (SX.S r.ma), v2, .str (SX.S r.op), .ref t] ∧ Dp K H v2 r.tg.d ∧ SqT K H t us ∧ DpAll K H us (r.os.map Od.d) := by
  cases h with
  | tup hS hA =>
    cases hA with
    | cons a1 hA =>
      cases hA with
      | cons a2 hA =>
        cases hA with
        | cons a3 hA =>
          cases hA with
          | cons a4 hA =>
            cases hA
            cases a1
            cases a3
            cases a4 with
            | tup hS2 hA2 => exact ⟨_, _, _, _, rfl, hS, a2, hS2, hA2⟩
theorem nodup_leA {α : Type} [DecidableEq α] : ∀ {us f : List α}, us.Nodup → (∀ u ∈ us, u ∈ f) → us.length ≤ f.length
  | [], _, _, _ => Nat.zero_le _
  | u :: us, f, h, s => by
    rw [List.nodup_cons] at h
    have h1 := nodup_leA (f := f.erase u) h.2 (fun x hx => (List.mem_erase_of_ne (fun (z : x = u) => h.1 (z ▸ hx))).mpr (s x (List.mem_cons_of_mem _ hx)))
    have hu := s u (List.mem_cons_self ..)
    rw [List.length_erase_of_mem hu] at h1
    have : 0 < f.length := List.length_pos_of_mem hu
    rw [List.length_cons]
    omega
def KeptFew (ru : List RRow) : Prop := ∀ r ∈ ru, ∃ ks : List (List Nat), ks.length ≤ 2 ∧ ∀ w ∈ keptNames r.ma ru, w ∈ ks
theorem kept_take {m : List Nat} {ru : List RRow} {j : Nat} {w : List Nat} (h : w ∈ keptNames m (ru.take j)) : w ∈ keptNames m ru := by
  unfold keptNames odsOf at h ⊢
  obtain ⟨o, ho, hw⟩ := List.mem_flatMap.mp h
  obtain ⟨r, hr, ho⟩ := List.mem_flatMap.mp ho
  obtain ⟨hr, e⟩ := List.mem_filter.mp hr
  exact List.mem_flatMap.mpr ⟨o, List.mem_flatMap.mpr ⟨r, List.mem_filter.mpr ⟨List.mem_of_mem_take hr, e⟩, ho⟩, hw⟩
theorem kept_few {ru : List RRow} {r : RRow} (h : KeptFew ru) (hr : r ∈ ru) (j : Nat) : (gotTx ((keptNames r.ma (ru.take j)).map SX.S)).length ≤ 2 := by
  obtain ⟨ks, h2, hk⟩ := h r hr
  refine Nat.le_trans (nodup_leA (f := ks.map SX.S) (gotTx_nodup _) fun u hu => ?_) (by rw [List.length_map]; exact h2)
  obtain ⟨w, hw, rfl⟩ := List.mem_map.mp (gotTx_mem.mp hu)
  exact List.mem_map_of_mem (hk w (kept_take hw))
def spRuleSo (K : PySem.W.Frag) : Sp := fun vs H Q _ => ∃ (rv : V) (md sd : Addr) (roof : Nat) (rs : List SRow) (ms : List MRow) (r : RRow), vs = [rv, .ref md, .ref sd, .int roof] ∧ Dp K H rv r.d ∧ Tbs K H md sd rs ms ∧ RuleOk rs ms roof r ∧ ∀ H', Same H H' → Q (.bl true) H'
def spRulesIn (K : PySem.W.Frag) (P : Program) (w : World) : Sp := fun vs H Q _ => ∃ (l md sd : Addr) (roof : Nat) (rv : List V) (rs : List SRow) (ms : List MRow) (ru : List RRow), vs = [.ref l, .ref md, .ref sd, .int roof] ∧ H l = some (.lst rv) ∧ DpAll K H rv (ru.map RRow.d) ∧ Tbs K H md sd rs ms ∧ (∀ r ∈ ru, RuleOk rs ms roof r) ∧ RuNd ru ∧ ru.length ≤ 240 ∧ KeptFew ru ∧
  ∀ (H' : Hp) (d : Addr) (kvs : List NE), Same H H' → H d = none → H' d = some (dnO P w d kvs) → RPr K H' kvs ru → Q (.ref d) H'
section
variable {P : Program} {w : World} {K : PySem.W.Frag} {mg : Str → Option Value} {base : Heap} {PD LA : Addr}
theorem ok_rule_is_so (T : Gb mg) (cis_tuple_of : C8.Cal P w K mg base 1 "is_tuple_of" (spTupOf K) []) (cis_name : C8.Cal P w K mg base 1 "is_name" spNameT []) (cis_target : C8.Cal P w K mg base 3 "is_target" (spIsTg K) []) (cis_op : C8.Cal P w K mg base 1 "is_op" spOpT []) (cop_let_1_cap : KCal P w K mg base 2 "op_let" spLetT 1 ["cap"] (fun vs zs => vs ++ zs))
    (cparts_of : C8.Cal P w K mg base 2 "parts_of" spPartsT []) (cis_operand : C8.Cal P w K mg base 3 "is_operand" (spIsOd K) []) (D : Dd K mg "rule_is_so" s_rule_is_so P_rule_is_so) : C8.Cal P w K mg base 4 "rule_is_so" (spRuleSo K) [] := by
  refine D.cal sc_rule_is_so (fun vs H Q E h => ?_) (fun f cdv A outer s H vs Q E hr h => ?_)
  · obtain ⟨rv, md, sd, roof, rs, ms, r, rfl, _⟩ := h
    rfl
  · obtain ⟨rv, md, sd, roof, rs, ms, r, rfl, hrow, tb, rok, q⟩ := h
    obtain ⟨q0, v2, t, us, rfl, hq, htg, ht, hus⟩ := rr4 hrow
    obtain ⟨mr, hmr, hma, htok, hook⟩ := rok.ex
    obtain ⟨o, ho, hon, hfi⟩ := op_of rok.op
    have h3 := op_n3 o
    have har := rok.ar
    have mok := tb.ok mr hmr
    refine ⟨_, (pss_cons (ps_if (pt_not (pt_val (C8.pe_c cis_tuple_of hr (by decide) (by rfl) (pa_cons (pv 0) (pa_cons pe_int pa_nil)))))
          (pss_one (ps_ret pe_bl))
          pss_nil)
        (pss_cons (ps_asg (pv 0) (pg_tup rfl (pgs_cons (pg_name (i := 4) sc_rule_is_so.nd rfl (Or.inl rfl)) (pgs_cons (pg_name (i := 5) sc_rule_is_so.nd rfl (Or.inl rfl)) (pgs_cons (pg_name (i := 6) sc_rule_is_so.nd rfl (Or.inl rfl)) (pgs_cons (pg_name (i := 7) sc_rule_is_so.nd rfl (Or.inl rfl)) pgs_nil))))))
        (pss_cons (ps_if (PW.pt (pw_or (pt_not (pt_val (C8.pe_c cis_name hr (by decide) (by rfl) (pa_cons (pv 4) pa_nil)))) (pw_or1 (pt_cmp (pc_dnotin (hu_of hr) (pv 4) (pv 1)) (by with_unfolding_all rfl)))))
          (pss_one (ps_ret pe_bl))
          pss_nil)
        (pss_cons (ps_set (i := 8) sc_rule_is_so.nd rfl (Or.inr rfl) (pe_dget (hu_of hr) (pv 1) (pv 4) (fun _ _ => rfl)))
        (pss_cons (ps_if (PW.pt (pw_or (pt_not (pt_val (C8.pe_c cis_target hr (by decide) (by rfl) (pa_cons (pv 5) (pa_cons (pv 8) (pa_cons (pv 2) pa_nil)))))) (pw_or (pt_not (pt_val (C8.pe_c cis_op hr (by decide) (by rfl) (pa_cons (pv 6) pa_nil)))) (pw_or1 (pt_not (pt_val (pe_kw cop_let_1_cap hr (by decide) (by rfl) (pa_cons (pv 6) pa_nil) (pk_cons (pv 3) pk_nil))))))))
          (pss_one (ps_ret pe_bl))
          pss_nil)
        (pss_cons (ps_if (pt_not (pt_val (C8.pe_c cis_tuple_of hr (by decide) (by rfl) (pa_cons (pv 7) (pa_cons (C8.pe_c cparts_of hr (by decide) (by rfl) (pa_cons (pv 6) pa_nil)) pa_nil)))))
          (pss_one (ps_ret pe_bl))
          pss_nil)
        (pss_one (ps_ret (pe_callB (cr_all rfl) (by rfl) T.all (by decide +kernel) (pa_cons (pe_lc (own := [("operand", 9)]) (by exact rfl) sc_rule_is_so.nd (pi_tup (pv 7)) (blkOk_by (own := [("operand", 9)]) (N := N_rule_is_so) (sc := defScope s_rule_is_so) (by decide +kernel)) (fun _ _ _ _ _ => (pg_name (i := 9) sc_rule_is_so.nd rfl (Or.inl rfl))) (fun _ _ _ _ _ => pts_nil) (fun _ _ _ _ _ => (C8.pe_c cis_operand hr (by decide) (by rfl) (pa_cons (pv 9) (pa_cons (pv 8) (pa_cons (pv 2) pa_nil)))))) pa_nil)))))))))), ?_⟩
    refine ⟨_, rfl, .ref q0, r.d, 4, rfl, hrow, _, rfl, iteF ?_⟩
    refine ⟨_, rfl, q0, _, rfl, hq, rfl, _, _, rfl, _, _, rfl, _, _, rfl, _, _, rfl, rfl, ?_⟩
    refine ⟨_, rfl, r.ma, rfl, by rw [hma]; exact mok.nm, fun H1 s1 => ⟨_, rfl, ifF rfl ?_⟩⟩
    obtain ⟨fv, hg, fm⟩ := (tb.same s1).get hmr
    rw [← hma] at hg
    refine ⟨_, rfl, _, rfl, md, _, rfl, hg, _, rfl, ifF rfl ?_⟩
    refine ⟨_, rfl, _, rfl, md, fv, rfl, hg, ?_⟩
    refine ⟨_, rfl, _, rfl, _, rfl, v2, fv, sd, rs, mr, r.tg, rfl, dp_same s1 htg, fm, htok, fun H2 s2 => ⟨_, rfl, ifF rfl ?_⟩⟩
    rw [ho]
    refine ⟨_, rfl, o, rfl, _, rfl, ifF rfl ?_⟩
    refine ⟨_, rfl, _, rfl, rfl, rfl, o, roof, rfl, hfi, _, rfl, ifF rfl ?_⟩
    have s12 := s1.trans s2
    have lus := dpAll_len hus
    rw [List.length_map] at lus
    refine ⟨_, rfl, _, rfl, o, rfl, .ref t, .tuple (r.os.map Od.d), o.n, rfl, .tup (sqT_s s12 ht) (dpAll_same s12 hus), _, rfl, ?_⟩
    refine ifF (by show (!decide ((r.os.map Od.d).length = o.n)) = false; rw [List.length_map, decide_eq_true (by omega)]; rfl) ?_
    refine ⟨_, rfl, t, rfl, ⟨_, sqT_s s12 ht⟩, fun D nD => ?_⟩
    refine lc_it (walk_tup (K := K) (a := t) (xs := us)) (fun j H' => Same H2 H' ∧ H' D = some (.lst ((List.replicate j true).map V.bl))) ⟨same_upd nD, upd_same⟩ (fun j H5 _ hh => sqT_s (s12.trans hh.1) ht) ?_ ?_
    · rintro j v H5 H6 hj ⟨sm, hD⟩ ⟨rfl, hv⟩
      obtain ⟨o', ho', hvd⟩ := row_of hus hv
      refine ⟨rfl, yesT ?_⟩
      refine ⟨_, rfl, _, rfl, _, rfl, v, fv, sd, rs, mr, o', rfl, dp_same (s12.trans sm) hvd, (fm.same s2).same sm, hook o' (List.mem_of_getElem? ho'), fun H7 s7 => ?_⟩
      refine ⟨_, s7 _ _ hD, by rw [List.length_map, List.length_replicate]; exact small1000 (by omega), Same.at_ (sm.trans s7) nD, ?_⟩
      rw [upd_same, List.replicate_succ', List.map_append]
      rfl
    · rintro H5 ⟨sm, hD⟩
      refine ⟨D, _, rfl, SqL.of hD, ?_⟩
      rw [show (List.replicate us.length true).all id = true by simp]
      exact q _ (s12.trans sm)
theorem ok_rules_in (T : Gb mg) (G : Gg mg PD LA) (crows_of : C8.Cal P w K mg base 1 "rows_of" spRows []) (crule_is_so : C8.Cal P w K mg base 4 "rule_is_so" (spRuleSo K) []) (ckept_by : C8.Cal P w K mg base 1 "kept_by" (spKeptBy K P w) []) (D : Dd K mg "rules_in" s_rules_in P_rules_in) : C8.Cal P w K mg base 5 "rules_in" (spRulesIn K P w) [] := by
  refine D.cal sc_rules_in (fun vs H Q E h => ?_) (fun f cdv A outer s H vs Q E hr h => ?_)
  · obtain ⟨l, md, sd, roof, rv, rs, ms, ru, rfl, _⟩ := h
    rfl
  · obtain ⟨l, md, sd, roof, rv, rs, ms, ru, rfl, hl, hrv, tb, hok, hnd, hle, hfew, q⟩ := h
    refine ⟨_, (pss_cons (ps_set (i := 4) sc_rules_in.nd rfl (Or.inl rfl) pe_dnewN)
        (pss_cons (ps_for PassesOwn.never rfl (pi_enum (by rfl) T.enumerate (pa_cons (C8.pe_c crows_of hr (by decide) (by rfl) (pa_cons pe_str (pa_cons (pv 0) pa_nil))) pa_nil)) (pg_tup rfl (pgs_cons (pg_name (i := 5) sc_rules_in.nd rfl (Or.inl rfl)) (pgs_cons (pg_name (i := 6) sc_rules_in.nd rfl (Or.inl rfl)) pgs_nil)))
          (pss_cons (ps_if (PW.pt (pw_or (pt_not (pt_val (C8.pe_c crule_is_so hr (by decide) (by rfl) (pa_cons (pv 6) (pa_cons (pv 1) (pa_cons (pv 2) (pa_cons (pv 3) pa_nil))))))) (pw_or1 (pt_cmpR (op_inN (hu9 (hu65 hr))) (pe_slice (r := rSlAny K) sl_any (pv 6) po_none (po_some pe_int)) (pv 4) (by with_unfolding_all rfl)))))
          (pss_one ps_never)
          pss_nil)
        (pss_cons (ps_asg (pe_slice (r := rSlAny K) sl_any (pv 6) (po_some pe_int) po_none) (pg_sub (pv 4) (pe_slice (r := rSlAny K) sl_any (pv 6) po_none (po_some pe_int)) (set_dn (hu9 (hu65 hr)))))
        (pss_one (ps_if (pt_cmpR op_gt (pe_callB call_len_seq (by rfl) T.len PySem.boot_len (pa_cons (C8.pe_c ckept_by hr (by decide) (by rfl) (pa_cons (pe_ix ix_tup (pv 6) pe_int (fun _ _ => rfl)) (pa_cons (pv 4) pa_nil))) pa_nil)) (C8.pe_gc (v := .int 2) rfl G.each) (nomark _))
          (pss_one ps_never)
          pss_nil)))))
        (pss_one (ps_ret (pv 4))))), ?_⟩
    refine fun d nd => ?_
    have s1 := same_upd (o := dnO P w d []) nd
    have lrv := dpAll_len hrv
    rw [List.length_map] at lrv
    refine ⟨_, rfl, "rules", l, rv, rfl, s1 _ _ hl, l, rv, rfl, SqL.of (s1 _ _ hl), ?_⟩
    refine for_it walk_enum (fun j σ Y => ∃ (y5 y6 : Option V) (kvs : List NE), σ = [some (.ref l), some (.ref md), some (.ref sd), some (.int roof), some (.ref d), y5, y6] ∧ Same H Y ∧ Y d = some (dnO P w d kvs) ∧ RPr K Y kvs (ru.take j))
      ⟨none, none, [], rfl, s1, upd_same, .nil⟩ (fun i σ Y _ ⟨_, _, _, _, h, _⟩ => SqL.of (h _ _ hl)) ?_ ?_
    · rintro j v σ Y0 Y hj ⟨y5, y6, kvs, rfl, s2, hd, hpr⟩ ⟨TT, xx, yy, rfl, nT, rfl, ex, ey⟩
      cases ex
      obtain ⟨r, hr1, hrow⟩ := row_of (dpAll_same s2 hrv) ey
      have sN := same_upd (o := .tup [.int ((j : Nat) : Int), yy]) nT
      have hjr : j < ru.length := (List.getElem?_eq_some_iff.mp hr1).1
      have hrm := List.mem_of_getElem? hr1
      have rok := hok r hrm
      have lk := paired_len hpr
      rw [List.length_take] at lk
      have tk : ru.take (j + 1) = ru.take j ++ [r] := by rw [List.take_add_one, hr1]; rfl
      refine ⟨TT, _, rfl, SqT.of upd_same, rfl, _, _, rfl, _, _, rfl, rfl, ?_⟩
      refine ⟨_, rfl, _, rfl, _, rfl, _, rfl, yy, md, sd, roof, rs, ms, r, rfl, dp_same sN hrow, tb.same (s2.trans sN), rok, fun Y1 sY1 => ⟨_, rfl, ifF rfl ?_⟩⟩
      have sA := sN.trans sY1
      obtain ⟨q0, v2, t, us, rfl, hq, htg, ht, hus⟩ := rr4 (dp_same sA hrow)
      refine ⟨_, rfl, _, rfl, q0, _, rfl, hq, fun Y2 p2 sY2 hp2 => ?_⟩
      have sB := sA.trans sY2
      have hp2 : SqT K Y2 p2 [.str (SX.S r.ma), v2] := hp2
      have hn : valN kvs (keyD r.kd) = none := hpr.none fun r' hr' e1 e2 => by
        rw [← List.take_append_drop j ru, List.drop_eq_getElem_cons hjr] at hnd
        have e3 : ru[j] = r := (List.getElem?_eq_some_iff.mp hr1).2
        exact ((List.pairwise_append.mp hnd).2.2 r' hr' ru[j] (List.mem_cons_self ..)) (by rw [e3]; exact e1) (by rw [e3]; exact e2)
      have key : ∀ {Z : Hp} {b : Addr}, KeepT Y1 Z → SqT K Z b [.str (SX.S r.ma), v2] → KeyN K Z (.ref b) b r.kd := fun {Z b} k h => ⟨rfl, .tup h (.cons (.str _) (.cons (dp_imm k htg r.tg.imm) .nil)), r.kd_imm, key_depth _ _⟩
      refine ⟨_, rfl, d, p2, kvs, r.kd, rfl, .inl (sB _ _ hd), (hpr.keep (KeepT.of sB)).keys, key (KeepT.of sY2) hp2, _, rfl, ?_⟩
      rw [hn]
      refine ifF rfl ?_
      refine ⟨_, rfl, _, rfl, q0, _, rfl, sqT_s sY2 hq, fun Y3 p3 sY3 hp3 => ?_⟩
      have hp3 : SqT K Y3 p3 [.str (SX.S r.op), .ref t] := hp3
      have sC := sB.trans sY3
      refine ⟨_, rfl, _, rfl, _, rfl, q0, _, rfl, sqT_s (sY2.trans sY3) hq, fun Y4 p4 sY4 hp4 => ?_⟩
      have hp4 : SqT K Y4 p4 [.str (SX.S r.ma), v2] := hp4
      have sD := sC.trans sY4
      have s14 := sY2.trans (sY3.trans sY4)
      have hd4 := sD _ _ hd
      refine ⟨d, p4, kvs, r.kd, rfl, hd4, (hpr.keep (KeepT.of sD)).keys, key (KeepT.of s14) hp4, hn, by omega, ?_⟩
      have bt5 : But d Y4 (upd Y4 d (dnO P w d (kvs ++ [(keyD r.kd, p4, .ref p3)]))) := But.upd (But.refl d Y4)
      have k5 := KeepT.ext hd4 bt5
      have hpr5 : RPr K (upd Y4 d (dnO P w d (kvs ++ [(keyD r.kd, p4, .ref p3)]))) (kvs ++ [(keyD r.kd, p4, .ref p3)]) (ru.take (j + 1)) := by
        rw [tk]
        refine paired_snoc (hpr.keep ((KeepT.of sD).trans k5)) ⟨rfl, dp_imm k5 (key (KeepT.of s14) hp4).2.1 r.kd_imm, ?_⟩
        refine dp_imm k5 (.tup (sqT_s sY4 hp3) (.cons (.str _) (.cons (.tup (sqT_s s14 ht) (dpAll_same s14 hus)) .nil))) r.vd_imm
      have sE : Same H (upd Y4 d (dnO P w d (kvs ++ [(keyD r.kd, p4, .ref p3)]))) := Same.at_ (s2.trans sD) nd
      have hq5 := k5.seqT (sqT_s s14 hq)
      have hd5 : (upd Y4 d (dnO P w d (kvs ++ [(keyD r.kd, p4, .ref p3)]))) d = some (dnO P w d (kvs ++ [(keyD r.kd, p4, .ref p3)])) := upd_same
      refine ⟨_, rfl, q0, _, 0, .str (SX.S r.ma), rfl, rfl, hq5, atI_nat (j := 0) rfl, _, rfl, r.ma, d, _, ru.take (j + 1), rfl, hd5, hpr5, hnd.sublist (List.take_sublist _ _), by rw [List.length_take]; omega, fun r' hr' => ?_, Nat.lt_of_le_of_lt (kept_few hfew hrm (j + 1)) (by decide), fun Y6 l6 ys s6 n6 hl6 hys _ => ?_⟩
      · have h' := hok r' (List.mem_of_mem_take hr')
        obtain ⟨o', _, h2, _⟩ := op_of h'.op
        rw [h'.ar, h2]
        exact op_n3 o'
      refine ⟨l6, _, rfl, .inl (SqL.of hl6), _, _, rfl, rfl, _, rfl, ?_⟩
      have l2 : ys.length ≤ 2 := by
        rw [hys.length_eq]
        exact kept_few hfew hrm (j + 1)
      refine ifF (decide_eq_false (show ¬ (2 : Int) < ((ys.map V.str).length : Int) by rw [List.length_map]; omega)) ?_
      exact ⟨_, _, _, rfl, sE.trans s6, s6 _ _ hd5, hpr5.keep (KeepT.of s6)⟩
    · rintro σ Y ⟨y5, y6, kvs, rfl, s2, hd, hpr⟩
      rw [lrv, List.take_length] at hpr
      exact ⟨_, rfl, q _ d kvs s2 nd hd hpr⟩
end
/-! ### sorted(rows): rows whose first unlike items can be compared -/
section
open PySem.SeqAt
open PySem.AutoSeq1 (wpAny_loadPart')
open PySem.MeetsSeq PySem.MeetsSeq2 PySem.MeetsSeq3
/-- two tuples whose first items are unlike texts -/
theorem tup_lt_head (l b : Addr) (is js : List Value) (n n2 : Nat) (dd dd2 : Option Addr) (sl sl2 : Array (Option Value)) (x y : Str) (t u : Tok) (hne : (x == y) = false) :
    Meets (Builtin.«tuple.__lt__» ⟨[.ref l, .ref b], []⟩)
      (fun _ R s => s.heap.get? l = some { cls := .type "tuple", dict := dd, data := .seq (List.toArray (.str x t :: is)) n, slots := sl } ∧ s.heap.get? b = some { cls := .type "tuple", dict := dd2, data := .seq (List.toArray (.str y u :: js)) n2, slots := sl2 } ∧
        R (.ok (.ret (.bool (decide (x.cps.toList < y.cps.toList))))) s) :=
  .of_wp fun prog w A R s h => by
    obtain ⟨hp, g, d, tk, os⟩ := s; obtain ⟨hl, hb, h⟩ := h
    have f2 := PySem.AutoSeq1.sub_tuple_tuple
    wp_walk using wpAny_loadPart' hl, wpAny_loadPart' hb, wpAny_forIn_list _ (fun rest b s' => b.1 = none ∧ s' = ⟨hp, g, d, tk, os⟩ ∧ rest = (Value.str x t, Value.str y u) :: is.zip js) _
    case turn =>
      rintro ⟨p, q⟩ rest b s' ⟨hb', rfl, hz⟩
      injection hz with h1 h2
      injection h1 with h3 h4
      subst h3 h4 h2
      have he := SeqAt.EqAt.str_str (A := A.in1) (s := ⟨hp, g, d, tk, os⟩) x t y u
      rw [hne] at he
      refine wpAny_bind (he prog w _ _ ?_)
      have hri := DT.rcLt_str A.in1 ⟨hp, g, d, tk, os⟩ x t y u prog w
      wp_walk using hri
      exact ⟨_, rfl, by simpa using h⟩
    case fin =>
      rintro ⟨b1, b2⟩ s' ⟨hb', rfl, hz⟩
      cases hz
    case h =>
      exact ⟨rfl, rfl, by simp⟩
end
/-- x < y can be told: alike data, or tuples whose first items are unlike texts -/
inductive LtS : PyData → PyData → Prop
  | al {x y : PyData} : PySem.W.alike x y = true → x ≠ .none → LtS x y
  | hd {a b : Str} {xs ys : List PyData} : (a == b) = false → LtS (.tuple (.str a :: xs)) (.tuple (.str b :: ys))
/-- the first unlike items can be compared (the very first are texts) -/
inductive FO : Nat → List PyData → List PyData → Prop
  | nil {i : Nat} {ys : List PyData} : FO i [] ys
  | nil2 {i : Nat} {xs : List PyData} : FO i xs []
  | eq {i : Nat} {x y : PyData} {xs ys : List PyData} : PyData.eqv x y = true → FO (i + 1) xs ys → FO i (x :: xs) (y :: ys)
  | s0 {a b : Str} {xs ys : List PyData} : PyData.eqv (.str a) (.str b) = false → FO 0 (.str a :: xs) (.str b :: ys)
  | lt {i : Nat} {x y : PyData} {xs ys : List PyData} : PyData.eqv x y = false → LtS x y → FO (i + 1) (x :: xs) (y :: ys)
section
variable {prog : Program} {w : World} {A : Around} {s : Shared}
theorem ltS_tells {x y : PyData} {p q : Value} {as bs : List Addr} (h : LtS x y) (ra : Reads s.heap p x as) (rb : Reads s.heap q y bs) (hu : A.units + 62 < cLine) (hx : x.depth ≤ 60) : ∃ b, ∀ (Q : Value → Shared → Prop) (E : Value → Shared → Prop), Q (.bool b) s → wpAny (model prog w) A (compareOp .Lt p q) Q E s := by
  cases h with
  | al ha hn =>
    refine ⟨_, fun Q E hq => PySem.W.rcLt_alike x y A s p q as bs ra rb ha hn ?_ prog w E Q hq⟩
    have : min x.depth y.depth ≤ x.depth := Nat.min_le_left _ _
    omega
  | @hd a b xs ys hne =>
    cases ra with
    | @tuple l o vs n _ _ h1 h2 h3 h4 =>
      cases rb with
      | @tuple l' o' vs' n' _ _ k1 k2 k3 k4 =>
        obtain ⟨vs⟩ := vs
        obtain ⟨vs'⟩ := vs'
        cases h4 with
        | @cons v1 vs1 _ _ _ _ r1 r2 =>
          cases k4 with
          | @cons v2 vs2 _ _ _ _ q1 q2 =>
            cases r1 with
            | str _ t =>
              cases q1 with
              | str _ u =>
                obtain ⟨c, dd, dt, sl⟩ := o
                obtain ⟨c', dd', dt', sl'⟩ := o'
                simp only at h2 h3 k2 k3
                subst h2 h3 k2 k3
                refine ⟨decide (a.cps.toList < b.cps.toList), fun Q E hq => ?_⟩
                exact richCompare_meets_room (op := .Lt) ⟨_, h1, rfl⟩ ⟨_, k1, rfl⟩ PySem.F.slot_tuple_lt PySem.F.entry_tuple_lt (PySem.F.args_tuple_lt_2 _ _) (tup_lt_head l l' vs1 vs2 n n' dd dd' sl sl' a b t u hne)
                  ⟨h1, k1, ⟨(fun z => nomatch z), hq⟩⟩ (by omega)
theorem fo_tells {fin : Bool} (hu : A.units + 62 < cLine) : ∀ {i : Nat} {xs ys : List PyData} {vs ws : List Value} {as bs : List Addr}, FO i xs ys → ReadsAll s.heap vs xs as → ReadsAll s.heap ws ys bs → PyData.plainAll xs = true → PyData.plainAll ys = true → (∀ x ∈ xs, x.depth ≤ 60) →
    ∃ b, PySem.W.KatLex prog w A true fin (fun r s' => s' = s ∧ r = b) (vs.zip ws) i s := by
  intro i xs ys vs ws as bs h
  induction h generalizing vs ws as bs with
  | nil =>
    intro ra _ _ _ _
    cases ra
    exact ⟨fin, PySem.W.kat_nil ⟨rfl, rfl⟩⟩
  | nil2 =>
    intro _ rb _ _ _
    cases rb
    rw [List.zip_nil_right]
    exact ⟨fin, PySem.W.kat_nil ⟨rfl, rfl⟩⟩
  | eq he _ ih =>
    intro ra rb pa pb hd
    rw [PyData.plainAll, Bool.and_eq_true] at pa pb
    cases ra with
    | cons r1 r2 =>
      cases rb with
      | cons q1 q2 =>
        obtain ⟨b, hb⟩ := ih r2 q2 pa.2 pb.2 fun x hx => hd x (List.mem_cons_of_mem _ hx)
        refine ⟨b, PySem.W.kat_cons (PySem.SeqAt.eqAt_plain _ _ A s _ _ _ _ r1 q1 pa.1 pb.1 ?_ prog w _ _ ?_)⟩
        · have := hd _ (List.mem_cons_self ..)
          exact Nat.lt_of_le_of_lt (Nat.add_le_add_left (Nat.le_trans (Nat.min_le_left _ _) (Nat.le_trans this (by decide : 60 ≤ 62))) _) hu
        · rw [he]
          exact PySem.W.kat_yes hb
  | @s0 sa sb _ _ he =>
    intro ra rb pa pb hd
    rw [PyData.plainAll, Bool.and_eq_true] at pa pb
    cases ra with
    | cons r1 r2 =>
      cases rb with
      | cons q1 q2 =>
        refine ⟨decide (sa.cps.toList < sb.cps.toList), PySem.W.kat_cons (PySem.SeqAt.eqAt_plain _ _ A s _ _ _ _ r1 q1 pa.1 pb.1 ?_ prog w _ _ ?_)⟩
        · have := hd _ (List.mem_cons_self ..)
          exact Nat.lt_of_le_of_lt (Nat.add_le_add_left (Nat.le_trans (Nat.min_le_left _ _) (Nat.le_trans this (by decide : 60 ≤ 62))) _) hu
        · rw [he]
          cases r1
          cases q1
          exact PySem.W.kat_no (PyProof.Rows.oneLt_str ⟨rfl, rfl⟩)
  | lt he hl =>
    intro ra rb pa pb hd
    rw [PyData.plainAll, Bool.and_eq_true] at pa pb
    cases ra with
    | cons r1 r2 =>
      cases rb with
      | cons q1 q2 =>
        obtain ⟨b, hb⟩ := ltS_tells (prog := prog) (w := w) hl r1 q1 hu (hd _ (List.mem_cons_self ..))
        refine ⟨b, PySem.W.kat_cons (PySem.SeqAt.eqAt_plain _ _ A s _ _ _ _ r1 q1 pa.1 pb.1 ?_ prog w _ _ ?_)⟩
        · have := hd _ (List.mem_cons_self ..)
          exact Nat.lt_of_le_of_lt (Nat.add_le_add_left (Nat.le_trans (Nat.min_le_left _ _) (Nat.le_trans this (by decide : 60 ≤ 62))) _) hu
        · rw [he]
          refine PySem.W.kat_no ?_
          rename_i i' _ _ _ _ _ _ _ _ _ _ _ _
          have e0 : (true && (i' + 1 == 0)) = false := rfl
          rw [e0]
          exact PySem.W.kat_one _ _ (hb _ _ ⟨rfl, rfl⟩)
end
/-- rows that can be sorted -/
structure RowsOk (ds : List PyData) : Prop where
  tup : ∀ d ∈ ds, ∃ k xs, d = .tuple (.str k :: xs) ∧ PyData.plainAll (.str k :: xs) = true ∧ ∀ x ∈ (PyData.str k :: xs), x.depth ≤ 60
  cmp : ∀ xs ys, .tuple xs ∈ ds → .tuple ys ∈ ds → FO 0 xs ys
section
variable {prog : Program} {w : World} {A : Around} {s : Shared}
theorem reads_mem {h : Heap} : ∀ {vs : List Value} {ds : List PyData} {as : List Addr}, ReadsAll h vs ds as → ∀ v ∈ vs, ∃ d ∈ ds, ∃ bs, Reads h v d bs
  | _, _, _, .nil, v, hv => nomatch hv
  | _, _, _, .cons (d := d) r rs, v, hv => by
    rcases List.mem_cons.mp hv with rfl | hv
    · exact ⟨d, List.mem_cons_self .., _, r⟩
    · obtain ⟨d', hd, bs, r'⟩ := reads_mem rs v hv
      exact ⟨d', List.mem_cons_of_mem _ hd, bs, r'⟩
theorem rows_tot {vs : List Value} {ds : List PyData} {as : List Addr} (hu : A.units + 62 < cLine) (ra : ReadsAll s.heap vs ds as) (h : RowsOk ds) : Srt.Tot prog w A s (PyProof.Rows.tuples' true) (fun p => p.1 ∈ vs) := by
  intro p q hm hm'
  obtain ⟨d, hd, b1, r1⟩ := reads_mem ra _ hm
  obtain ⟨d', hd', b2, r2⟩ := reads_mem ra _ hm'
  obtain ⟨k, xs, rfl, p1, e1⟩ := h.tup d hd
  obtain ⟨k', ys, rfl, p2, e2⟩ := h.tup d' hd'
  generalize p.1 = pv at r1
  generalize q.1 = qv at r2
  cases r1 with
  | @tuple l o us n _ _ h1 h2 h3 h4 =>
    cases r2 with
    | @tuple l' o' us' n' _ _ k1 k2 k3 k4 =>
      obtain ⟨b, hb⟩ := fo_tells (prog := prog) (w := w) (fin := decide (us.size < us'.size)) hu (h.cmp _ _ hd hd') h4 k4 p1 p2 e1
      exact ⟨b, PySem.W.kat_lt h1 h3 k1 k3 hb⟩
theorem rows_firsts {h : Heap} : ∀ {vs : List Value} {ds : List PyData} {as : List Addr}, ReadsAll h vs ds as → (∀ d ∈ ds, ∃ k xs, d = PyData.tuple (.str k :: xs)) → ∃ fs : List Value, PySem.W.KatTups h vs fs ∧ fs.length = vs.length ∧ ∀ f ∈ fs, ∃ x t, f = Value.str x t
  | _, _, _, .nil, _ => ⟨[], PySem.W.KatTups.nil, rfl, fun _ hm => nomatch hm⟩
  | _, _, _, .cons (d := d) r rs, ht => by
    obtain ⟨fs, h1, h2, h3⟩ := rows_firsts rs fun d hd => ht d (List.mem_cons_of_mem _ hd)
    obtain ⟨k, xs, rfl⟩ := ht d (List.mem_cons_self ..)
    cases r with
    | @tuple l o us n _ _ g1 g2 g3 g4 =>
      obtain ⟨us⟩ := us
      cases g4 with
      | @cons v1 vs1 _ _ _ _ r1 r2 =>
        cases r1 with
        | str _ t =>
          refine ⟨.str k t :: fs, PySem.W.KatTups.cons g1 g2 g3 (by simp) h1, by rw [List.length_cons, List.length_cons, h2], fun f hm => ?_⟩
          rcases List.mem_cons.mp hm with rfl | hm
          · exact ⟨k, t, rfl⟩
          · exact h3 f hm
end
section
variable {X : Cx}
/-- sorted(rows): the same rows in some order -/
def rSortRows (K : PySem.W.Frag) : List V → Hp → VK → Prop := fun xs H Q => ∃ (a : Addr) (vs : List V) (ds : List PyData), xs = [.ref a] ∧ SqL K H a vs ∧ DpAll K H vs ds ∧ RowsOk ds ∧ ∀ (ys : List V) (p : Addr), ys.Perm vs → H p = none → Q (.ref p) (upd H p (.lst ys))
theorem refs_dp {K : PySem.W.Frag} {H : Hp} : ∀ {vs : List V} {ds : List PyData}, DpAll K H vs ds → (∀ d ∈ ds, ∃ xs, d = PyData.tuple xs) → ∀ v ∈ vs, ∃ t, v = V.ref t
  | _, _, .nil, _, v, hv => nomatch hv
  | _, _, .cons (d := d) r rs, ht, v, hv => by
    rcases List.mem_cons.mp hv with rfl | hv
    · obtain ⟨xs, rfl⟩ := ht d (List.mem_cons_self ..)
      cases r with
      | tup _ _ => exact ⟨_, rfl⟩
    · exact refs_dp rs (fun d hd => ht d (List.mem_cons_of_mem _ hd)) v hv
theorem cr_sortRows (hu : X.A.units + 65 < cLine) : CallR X (.builtin "sorted") (rSortRows X.K) := by
  intro pins s σ H vs us Q I r h
  obtain ⟨a, xs, ds, rfl, hs, hx, hok, q⟩ := h
  obtain ⟨its, rv, hl, hz⟩ := I.list hs
  obtain ⟨u, rfl, ru⟩ := vals1 r
  obtain rfl : u = Value.ref a := ru
  obtain ⟨as, ra⟩ := Dp.readsAll I ds xs its hx rv
  obtain ⟨e1, e2⟩ := refs_back rv (refs_dp hx fun d hd => by obtain ⟨k, ys, e, _⟩ := hok.tup d hd; exact ⟨_, e⟩)
  refine Srt.sorted_any hl.isList (by rw [← rv.length]; exact hz) (fun h2 h₁ a' ha k => ?_) fun out ho => ?_
  · intro h' keep
    have kk : ∀ b o, s.heap.get? b = some o → h'.get? b = some o := fun b o e => keep b o (k b o e).1 (k b o e).2
    have ra' : ReadsAll h' its ds as := ReadsAll.keeps kk ra
    obtain ⟨fs, g1, g2, g3⟩ := rows_firsts ra' fun d hd => by obtain ⟨k, ys, e, _⟩ := hok.tup d hd; exact ⟨k, ys, e⟩
    refine ⟨PyProof.Rows.tuples' true, fun Q E hq => ?_, rows_tot (s := { s with heap := h' }) (by show X.A.units + 1 + 1 + 62 < cLine; omega) ra' hok⟩
    refine PySem.W.kat_kind (T := .type "str") g1 (by omega) (fun f hm => ?_) (by rfl) ?_
    · obtain ⟨x, t, rfl⟩ := g3 f hm
      exact PySem.W.Looks.now
    · have e : (Value.type "str" != Value.type "tuple") = true := by first | decide +kernel | rfl | decide
      rw [e]
      exact hq
  · have h3 : ∀ u ∈ out, ∃ a, u = Value.ref a := fun u hu => e2 u (ho.mem_iff.mp hu)
    obtain ⟨n, hn⟩ := PyProof.Rows.sortedAll_at s.heap its out.toArray
    refine ⟨.ref (s.heap.objs.size + 1), upd H (s.heap.objs.size + 1) (.lst (out.map backV)), I.laid (t' := s.toks) (fun b o e => PyProof.Rows.sortedAll_old e) (Nat.le_succ _) ⟨?_, out, n, vals_back h3, hn⟩, rfl, q _ _ ?_ (I.hok.fresh (Nat.le_succ _))⟩
    · rw [List.length_map, ho.length_eq, ← rv.length]; exact hz
    · rw [e1]; exact ho.map backV
end
/-! ### a grammar's rows can be sorted -/
theorem fo_self : ∀ (xs : List PyData) (i : Nat), PyData.plainAll xs = true → FO i xs xs
  | [], _, _ => .nil
  | x :: xs, i, h => by
    rw [PyData.plainAll, Bool.and_eq_true] at h
    exact .eq (PySem.SeqAt.eqv_refl_plain x h.1) (fo_self xs (i + 1) h.2)
theorem plain_names : ∀ ws : List (List Nat), PyData.plainAll (ws.map strD) = true
  | [] => rfl
  | _ :: ws => plain_names ws
theorem depth_names : ∀ ws : List (List Nat), PyData.depthAll (ws.map strD) = 0
  | [] => rfl
  | w :: ws => by
    show max 0 (PyData.depthAll (ws.map strD)) = 0
    rw [depth_names ws]
    rfl
theorem en_plain (e : En) : e.d.plain = true := by cases e <;> rfl
theorem od_plain (o : Od) : o.d.plain = true := by
  cases o with
  | en e => exact en_plain e
  | own => rfl
  | num n => rfl
theorem ods_plain : ∀ os : List Od, PyData.plainAll (os.map Od.d) = true
  | [] => rfl
  | o :: os => by
    show (o.d.plain && PyData.plainAll (os.map Od.d)) = true
    rw [od_plain o, ods_plain os]
    rfl
theorem en_depth (e : En) : e.d.depth ≤ 1 := by cases e <;> exact Nat.le_refl _
theorem od_depth (o : Od) : o.d.depth ≤ 1 := by
  cases o with
  | en e => exact en_depth e
  | own => exact Nat.le_refl _
  | num n => exact Nat.le_refl _
theorem ods_depth : ∀ os : List Od, PyData.depthAll (os.map Od.d) ≤ 1
  | [] => Nat.zero_le _
  | o :: os => by
    show max o.d.depth (PyData.depthAll (os.map Od.d)) ≤ 1
    exact Nat.max_le.mpr ⟨od_depth o, ods_depth os⟩
theorem str_ne {a b : List Nat} (h : a ≠ b) : PyData.eqv (strD a) (strD b) = false := by
  show (SX.S a == SX.S b) = false
  rw [beq_eq_false_iff_ne]
  exact fun z => h (SX.S_inj z)
theorem str_eq (a : List Nat) : PyData.eqv (strD a) (strD a) = true := by
  show (SX.S a == SX.S a) = true
  exact beq_self_eq_true _
theorem by_name {α : Type} {f : α → List Nat} : ∀ {rs : List α}, (rs.map f).Nodup → ∀ r ∈ rs, ∀ r' ∈ rs, f r = f r' → r = r'
  | [], _, r, h, _, _, _ => nomatch h
  | x :: xs, hn, r, h, r', h', e => by
    rw [List.map_cons, List.nodup_cons] at hn
    rcases List.mem_cons.mp h with rfl | g
    · rcases List.mem_cons.mp h' with rfl | g'
      · rfl
      · exact absurd (e ▸ List.mem_map_of_mem g') hn.1
    · rcases List.mem_cons.mp h' with rfl | g'
      · exact absurd (e ▸ List.mem_map_of_mem g) hn.1
      · exact by_name hn.2 r g r' g' e
theorem rows_sorts {rs : List SRow} (h : SortsOk rs) : RowsOk (rs.map SRow.d) := by
  have pl : ∀ r : SRow, PyData.plainAll [strD r.nm, .tuple (r.dn.map strD), .tuple (r.up.map strD)] = true := fun r => by
    show (true && (PyData.plainAll (r.dn.map strD) && (PyData.plainAll (r.up.map strD) && true))) = true
    rw [plain_names, plain_names]
    rfl
  refine ⟨fun d hd => ?_, fun xs ys hx hy => ?_⟩
  · obtain ⟨r, _, rfl⟩ := List.mem_map.mp hd
    refine ⟨SX.S r.nm, _, rfl, pl r, fun x hx => ?_⟩
    simp only [List.mem_cons, List.not_mem_nil, or_false] at hx
    rcases hx with rfl | rfl | rfl
    · exact Nat.zero_le _
    · show PyData.depthAll (r.dn.map strD) + 1 ≤ 60
      rw [depth_names]
      decide
    · show PyData.depthAll (r.up.map strD) + 1 ≤ 60
      rw [depth_names]
      decide
  · obtain ⟨r, hr, e⟩ := List.mem_map.mp hx
    obtain ⟨r', hr', e'⟩ := List.mem_map.mp hy
    cases e
    cases e'
    by_cases hn : r.nm = r'.nm
    · rw [by_name h.nd r hr r' hr' hn]
      exact fo_self _ 0 (pl r')
    · exact .s0 (str_ne hn)
theorem rows_maks {ms : List MRow} (h : (ms.map MRow.nm).Nodup) : RowsOk (ms.map MRow.d) := by
  have pl : ∀ r : MRow, PyData.plainAll [strD r.nm, strD r.so, .tuple (r.pt.map strD)] = true := fun r => by
    show (true && (true && (PyData.plainAll (r.pt.map strD) && true))) = true
    rw [plain_names]
    rfl
  refine ⟨fun d hd => ?_, fun xs ys hx hy => ?_⟩
  · obtain ⟨r, _, rfl⟩ := List.mem_map.mp hd
    refine ⟨SX.S r.nm, _, rfl, pl r, fun x hx => ?_⟩
    simp only [List.mem_cons, List.not_mem_nil, or_false] at hx
    rcases hx with rfl | rfl | rfl
    · exact Nat.zero_le _
    · exact Nat.zero_le _
    · show PyData.depthAll (r.pt.map strD) + 1 ≤ 60
      rw [depth_names]
      decide
  · obtain ⟨r, hr, e⟩ := List.mem_map.mp hx
    obtain ⟨r', hr', e'⟩ := List.mem_map.mp hy
    cases e
    cases e'
    by_cases hn : r.nm = r'.nm
    · rw [by_name h r hr r' hr' hn]
      exact fo_self _ 0 (pl r')
    · exact .s0 (str_ne hn)
theorem rund_same : ∀ {ru : List RRow}, RuNd ru → ∀ r ∈ ru, ∀ r' ∈ ru, r.ma = r'.ma → r.tg = r'.tg → r = r'
  | [], _, r, h, _, _, _, _ => nomatch h
  | x :: xs, hn, r, h, r', h', e, e2 => by
    unfold RuNd at hn
    rw [List.pairwise_cons] at hn
    rcases List.mem_cons.mp h with rfl | g
    · rcases List.mem_cons.mp h' with rfl | g'
      · rfl
      · exact absurd e2 (hn.1 r' g' e)
    · rcases List.mem_cons.mp h' with rfl | g'
      · exact absurd e2.symm (hn.1 r g e.symm)
      · exact rund_same hn.2 r g r' g' e e2
theorem en_lt {e e' : En} : LtS e.d e'.d := by
  cases e with
  | sp p w =>
    cases e' with
    | sp p' w' => exact .al rfl (fun z => nomatch z)
    | kept w' => exact .hd (by decide +kernel)
  | kept w =>
    cases e' with
    | sp p' w' => exact .hd (by decide +kernel)
    | kept w' => exact .al rfl (fun z => nomatch z)
theorem rows_rules {ru : List RRow} (h : RuNd ru) : RowsOk (ru.map RRow.d) := by
  have pl : ∀ r : RRow, PyData.plainAll [strD r.ma, r.tg.d, strD r.op, .tuple (r.os.map Od.d)] = true := fun r => by
    show (true && (r.tg.d.plain && (true && (PyData.plainAll (r.os.map Od.d) && true)))) = true
    rw [en_plain, ods_plain]
    rfl
  refine ⟨fun d hd => ?_, fun xs ys hx hy => ?_⟩
  · obtain ⟨r, _, rfl⟩ := List.mem_map.mp hd
    refine ⟨SX.S r.ma, _, rfl, pl r, fun x hx => ?_⟩
    simp only [List.mem_cons, List.not_mem_nil, or_false] at hx
    rcases hx with rfl | rfl | rfl | rfl
    · exact Nat.zero_le _
    · exact Nat.le_trans (en_depth _) (by decide)
    · exact Nat.zero_le _
    · show PyData.depthAll (r.os.map Od.d) + 1 ≤ 60
      have := ods_depth r.os
      omega
  · obtain ⟨r, hr, e⟩ := List.mem_map.mp hx
    obtain ⟨r', hr', e'⟩ := List.mem_map.mp hy
    cases e
    cases e'
    by_cases hn : r.ma = r'.ma
    · by_cases ht : r.tg = r'.tg
      · rw [rund_same h r hr r' hr' hn ht]
        exact fo_self _ 0 (pl r')
      · refine .eq (by rw [hn]; exact str_eq _) (.lt ?_ en_lt)
        rw [en_eqv]
        exact decide_eq_false ht
    · exact .s0 (str_ne hn)
/-! ### a grammar is made -/
abbrev s_GI : Stmt := inClass (top 53) 0
abbrev N_GI : List Str := ["self", "sorts", "makings", "rules", "cap", "making"]
abbrev P_GI : List Str := ["self", "sorts", "makings", "rules", "cap"]
theorem sc_GI : FnScope N_GI P_GI (defScope s_GI) := ⟨rfl, rfl, rfl, by decide +kernel, rfl, by decide +kernel, by decide +kernel⟩
theorem ins_no {C dx : Addr} {fs : List (Str × V)} : ¬ TupO (.ins C dx fs) := fun h => by
  rcases h with ⟨_, e⟩ | ⟨_, _, e⟩ <;> cases e
abbrev g1 (a : V) : List (Str × V) := [("top", a)]
abbrev g2 (a b : V) : List (Str × V) := [("top", a), ("sort_table", b)]
abbrev g3 (a b c : V) : List (Str × V) := [("top", a), ("sort_table", b), ("making_table", c)]
abbrev g4 (a b c d : V) : List (Str × V) := [("top", a), ("sort_table", b), ("making_table", c), ("rule_table", d)]
abbrev g5 (a b c d e : V) : List (Str × V) := [("top", a), ("sort_table", b), ("making_table", c), ("rule_table", d), ("kept_table", e)]
abbrev g6 (a b c d e f : V) : List (Str × V) := [("top", a), ("sort_table", b), ("making_table", c), ("rule_table", d), ("kept_table", e), ("risen", f)]
theorem pf1 (a : V) : putF "top" a [] = g1 a := by with_unfolding_all rfl
theorem pf2 (a b : V) : putF "sort_table" b (g1 a) = g2 a b := by with_unfolding_all rfl
theorem pf3 (a b c : V) : putF "making_table" c (g2 a b) = g3 a b c := by with_unfolding_all rfl
theorem pf4 (a b c d : V) : putF "rule_table" d (g3 a b c) = g4 a b c d := by with_unfolding_all rfl
theorem pf5 (a b c d e : V) : putF "kept_table" e (g4 a b c d) = g5 a b c d e := by with_unfolding_all rfl
theorem pf6 (a b c d e f : V) : putF "risen" f (g5 a b c d e) = g6 a b c d e f := by with_unfolding_all rfl
theorem lk2 (a b : V) : (g2 a b).lookup (("sort_table" : String) : Str) = some b := by with_unfolding_all rfl
theorem lk3 (a b c : V) : (g3 a b c).lookup (("making_table" : String) : Str) = some c := by with_unfolding_all rfl
theorem lk3b (a b c : V) : (g3 a b c).lookup (("sort_table" : String) : Str) = some b := by with_unfolding_all rfl
theorem lk4 (a b c d : V) : (g4 a b c d).lookup (("making_table" : String) : Str) = some c := by with_unfolding_all rfl
theorem lk4b (a b c d : V) : (g4 a b c d).lookup (("rule_table" : String) : Str) = some d := by with_unfolding_all rfl
/-- {k: v for .. in ..} over any walk -/
theorem dc_it {J : It} {n : Nat} {G : Hp → Prop} {Yd : Nat → Hp → V → Hp → Prop} (Wk : Walk J n G Yd) {g : TG} {tt : TT} {tk tv : TE} {vs : List Nat} {σ : L2.St} {H1 : Hp} {D : Addr} {Qd : Hp → Prop} (Pv : Nat → Hp → Prop) (h0 : Pv 0 (upd H1 D (.dK []))) (hl : ∀ i H, i ≤ n → Pv i H → G H)
    (hs : ∀ i x H H', i < n → Pv i H → Yd i H x H' → g x (wipe σ vs) H' fun σ2 H2 => wipe σ2 vs = wipe σ vs ∧ tt σ2 H2 fun b H3 =>
      if b = true then tk σ2 H3 fun y H4 => tv σ2 H4 fun z H5 => ∃ kvs k, y = kV k ∧ H5 D = some (.dK kvs) ∧ kvs.length < sizeLine ∧ Pv (i + 1) (upd H5 D (.dK (putK kvs k z))) else Pv (i + 1) H3) (hd : ∀ H, Pv n H → Qd H) :
    ∃ W : Nat → Nat → Hp → Prop, (∃ m, W 0 m (upd H1 D (.dK []))) ∧ ∀ i m H, W i m H →
      (J.stop i H ∧ Qd H) ∨ (J.go i H ∧ ∃ Nx : Hp → Prop, (∀ H', Nx H' → ∃ m', m' < m ∧ W (i + 1) m' H') ∧ ∀ x H', J.yld i H x H' → g x (wipe σ vs) H' fun σ2 H2 => wipe σ2 vs = wipe σ vs ∧ tt σ2 H2 fun b H3 =>
        if b = true then tk σ2 H3 fun y H4 => tv σ2 H4 fun z H5 => ∃ kvs k, y = kV k ∧ H5 D = some (.dK kvs) ∧ kvs.length < sizeLine ∧ Nx (upd H5 D (.dK (putK kvs k z))) else Nx H3) := by
  refine ⟨fun i m H => m = n - i ∧ i ≤ n ∧ Pv i H, ⟨n, by simp, Nat.zero_le _, h0⟩, ?_⟩
  rintro i m H ⟨rfl, hi, p⟩
  have q := hl i H hi p
  by_cases hlt : i < n
  · exact .inr ⟨Wk.goes i H hlt q, Pv (i + 1), fun H' p' => ⟨n - (i + 1), by omega, rfl, hlt, p'⟩, fun x H' y => hs i x H H' hlt p (Wk.yields i H x H' hlt q y)⟩
  · have e : i = n := by omega
    subst e
    exact .inl ⟨Wk.stops H q, hd H p⟩
theorem pe_fldK {X : Cx} {K' : PySem.W.Frag} {e : Expr} {f : Str} {pos : Pos} {ta : TE} (hK : X.K = K') (he : PE X e ta) (hb : attributeBase e f X.env (eval e X.env) = eval e X.env) : PE X (.Attribute e f pos) (tFld K' ta f) := by
  subst hK
  exact pe_fld he hb
theorem tab_at {K : PySem.W.Frag} {H : Hp} {k : Key} {v : V} : ∀ {kvs : List (Key × V)} {ms : List MRow} {i : Nat}, Tab K H kvs (ms.map mT) → kvs[i]? = some (k, v) → ∃ m, ms[i]? = some m ∧ k = kS m.nm
  | [], _, _, _, h => by cases h
  | _ :: _, [], _, t, _ => by cases t
  | p :: kvs, m :: ms, 0, t, h => by
    cases t with
    | cons a _ =>
      cases h
      exact ⟨m, rfl, a.1⟩
  | p :: kvs, m :: ms, i + 1, t, h => by
    cases t with
    | cons _ r =>
      obtain ⟨m', e, hk⟩ := tab_at (i := i) r h
      exact ⟨m', e, hk⟩
/-- what the rows of a grammar keep to -/
structure GFit (rs : List SRow) (ms : List MRow) (ru : List RRow) (roof : Nat) : Prop where
  so : SortsOk rs
  nd : (ms.map MRow.nm).Nodup
  ok : ∀ m ∈ ms, MOk rs m
  m8 : ms.length ≤ 8
  ra : ∀ r ∈ ru, RuleOk rs ms roof r
  rn : RuNd ru
  rl : ru.length ≤ 240
  kf : KeptFew ru
  ko : ∀ m ∈ ms, (gotTx ((keptNames m.nm ru).map SX.S)).length ≤ 2
  rf : roof ≤ 9
/-- the class, in the written part -/
structure GCls (K : PySem.W.Frag) (C : Addr) : Prop where
  c : Cls K C
  top : NoAttr K C "top"
  sort : NoAttr K C "sort_table"
  making : NoAttr K C "making_table"
  rule : NoAttr K C "rule_table"
  kept : NoAttr K C "kept_table"
  risen : NoAttr K C "risen"
/-- what is kept of each making -/
def KTab (Z H : Hp) (kd : Addr) (ms : List MRow) (ru : List RRow) : Prop := ∃ kk, H kd = some (.dK kk) ∧ ∀ m ∈ ms, ∃ l ys, valV kk (kS m.nm) = some (.ref l) ∧ Z l = none ∧ H l = some (.lst (ys.map V.str)) ∧ ys.Perm (gotTx ((keptNames m.nm ru).map SX.S)) ∧ sortedS ys = true
/-- a grammar on the heap -/
structure GrOk (K : PySem.W.Frag) (P : Program) (w : World) (C : Addr) (Z H : Hp) (x : Addr) (rs : List SRow) (ms : List MRow) (ru : List RRow) (roof : Nat) : Prop where
  ex : ∃ dx sd md rd kd rt, H x = some (.ins C dx [("top", .int roof), ("sort_table", .ref sd), ("making_table", .ref md), ("rule_table", .ref rd), ("kept_table", .ref kd), ("risen", .ref rt)]) ∧
    (∃ skv, H sd = some (.dK skv) ∧ Tab K H skv (rs.map sT)) ∧ (∃ kvs, H md = some (.dK kvs) ∧ Tab K H kvs (ms.map mT)) ∧ (∃ nvs, H rd = some (dnO P w rd nvs) ∧ RPr K H nvs ru) ∧ KTab Z H kd ms ru
theorem GrOk.less {K : PySem.W.Frag} {P : Program} {w : World} {C : Addr} {Z Z' H : Hp} {x : Addr} {rs : List SRow} {ms : List MRow} {ru : List RRow} {roof : Nat} (h : GrOk K P w C Z' H x rs ms ru roof) (s : Same Z Z') : GrOk K P w C Z H x rs ms ru roof := by
  obtain ⟨dx, sd, md, rd, kd, rt, hx, h1, h2, h3, kk, hk, h4⟩ := h.ex
  exact ⟨dx, sd, md, rd, kd, rt, hx, h1, h2, h3, kk, hk, fun m hm => by
    obtain ⟨l, ys, q1, q2, q3⟩ := h4 m hm
    exact ⟨l, ys, q1, s.free q2, q3⟩⟩
theorem sT_imms (rs : List SRow) : ∀ t ∈ rs.map sT, imm t.r = true := fun t ht => by
  obtain ⟨r', _, e⟩ := List.mem_map.mp ht
  rw [← e]
  exact sT_imm r'
theorem mT_imms (ms : List MRow) : ∀ t ∈ ms.map mT, imm t.r = true := fun t ht => by
  obtain ⟨r', _, e⟩ := List.mem_map.mp ht
  rw [← e]
  exact mT_imm r'
theorem GrOk.but {K : PySem.W.Frag} {P : Program} {w : World} {C : Addr} {Z H H' : Hp} {x a : Addr} {b : List V} {rs : List SRow} {ms : List MRow} {ru : List RRow} {roof : Nat} (h : GrOk K P w C Z H x rs ms ru roof) (hZ : Z a ≠ none) (ha : H a = some (.lst b)) (s : But a H H') : GrOk K P w C Z H' x rs ms ru roof := by
  obtain ⟨dx, sd, md, rd, kd, rt, hx, ⟨skv, hs, ts⟩, ⟨mkv, hm, tm⟩, ⟨nvs, hn, tn⟩, kk, hk, h4⟩ := h.ex
  have k := KeepT.but ha s
  have nd : ∀ {c : Addr} {o : HO}, H c = some o → (∀ xs, o ≠ .lst xs) → H' c = some o := fun {c o} e n => s c o (fun z => by
    rw [z, ha] at e
    exact n _ (Option.some.inj e).symm) e
  exact ⟨dx, sd, md, rd, kd, rt, nd hx (fun _ z => nomatch z), ⟨skv, nd hs (fun _ z => nomatch z), ts.keep k (sT_imms rs)⟩, ⟨mkv, nd hm (fun _ z => nomatch z), tm.keep k (mT_imms ms)⟩, ⟨nvs, nd hn (fun _ z => nomatch z), tn.keep k⟩, kk, nd hk (fun _ z => nomatch z), fun m hm' => by
    obtain ⟨l, ys, q1, q2, q3, q4⟩ := h4 m hm'
    exact ⟨l, ys, q1, q2, s _ _ (fun z => hZ (by rw [← z]; exact q2)) q3, q4⟩⟩
theorem GrOk.same {K : PySem.W.Frag} {P : Program} {w : World} {C : Addr} {Z H H' : Hp} {x : Addr} {rs : List SRow} {ms : List MRow} {ru : List RRow} {roof : Nat} (h : GrOk K P w C Z H x rs ms ru roof) (s : Same H H') : GrOk K P w C Z H' x rs ms ru roof := by
  obtain ⟨dx, sd, md, rd, kd, rt, hx, ⟨skv, hs, ts⟩, ⟨mkv, hm, tm⟩, ⟨nvs, hn, tn⟩, kk, hk, h4⟩ := h.ex
  have k := KeepT.of s
  exact ⟨dx, sd, md, rd, kd, rt, s _ _ hx, ⟨skv, s _ _ hs, ts.keep k (sT_imms rs)⟩, ⟨mkv, s _ _ hm, tm.keep k (mT_imms ms)⟩, ⟨nvs, s _ _ hn, tn.keep k⟩, kk, s _ _ hk, fun m hm' => by
    obtain ⟨l, ys, q1, q2, q3, q4⟩ := h4 m hm'
    exact ⟨l, ys, q1, q2, s _ _ q3, q4⟩⟩
def spGI (K : PySem.W.Frag) (P : Program) (w : World) (C : Addr) : Sp := fun vs H Q _ => ∃ (x dx ls lm lr : Addr) (roof : Nat) (sv mv rv : List V) (rs : List SRow) (ms : List MRow) (ru : List RRow), vs = [.ref x, .ref ls, .ref lm, .ref lr, .int roof] ∧ H x = some (.ins C dx []) ∧ H ls = some (.lst sv) ∧ H lm = some (.lst mv) ∧ H lr = some (.lst rv) ∧
  DpAll K H sv (rs.map SRow.d) ∧ DpAll K H mv (ms.map MRow.d) ∧ DpAll K H rv (ru.map RRow.d) ∧ GFit rs ms ru roof ∧ ∀ H', But x H H' → GrOk K P w C H H' x rs ms ru roof → Q .non H'
section
variable {P : Program} {w : World} {K : PySem.W.Frag} {mg : Str → Option Value} {base : Heap} {C : Addr}
theorem ok_GI {f : Addr} {fd : FuncData} (T : Gb mg) (gc : GCls K C) (ccap_in : C8.Cal P w K mg base 2 "cap_in" spCap []) (csorts_in : C8.Cal P w K mg base 4 "sorts_in" (spSortsIn K) []) (cmakings_in : C8.Cal P w K mg base 4 "makings_in" (spMaksIn K) []) (crules_in : C8.Cal P w K mg base 5 "rules_in" (spRulesIn K P w) []) (ckept_by : C8.Cal P w K mg base 1 "kept_by" (spKeptBy K P w) [])
    (F : FunD K "__init__" "Grammar.__init__" (defArgs s_GI) (defBody s_GI) (defScope s_GI) [] [("cap", .int 0)] f fd) : FnOk P w K mg base CX0 6 f fd P_GI (spGI K P w C) := by
  refine F.ok sc_GI (fun vs H Q E h => ?_) (fun cdv A outer s H vs Q E hr h => ?_)
  · obtain ⟨x, dx, ls, lm, lr, roof, sv, mv, rv, rs, ms, ru, rfl, _⟩ := h
    rfl
  · obtain ⟨x, dx, ls, lm, lr, roof, sv, mv, rv, rs, ms, ru, rfl, hx, hls, hlm, hlr, hsv, hmv, hrv, gf, q⟩ := h
    refine ⟨_, pss_cons (ps_fld (pv 0) (C8.pe_c ccap_in hr (by decide) (by rfl) (pa_cons (pv 4) pa_nil)) (by rfl))
      (pss_cons (ps_fld (pv 0) (C8.pe_c csorts_in hr (by decide) (by rfl) (pa_cons (pv 1) pa_nil)) (by rfl))
      (pss_cons (ps_fld (pv 0) (C8.pe_c cmakings_in hr (by decide) (by rfl) (pa_cons (pv 2) (pa_cons (pe_fld (pv 0) (by rfl)) pa_nil))) (by rfl))
      (pss_cons (ps_fld (pv 0) (C8.pe_c crules_in hr (by decide) (by rfl) (pa_cons (pv 3) (pa_cons (pe_fld (pv 0) (by rfl)) (pa_cons (pe_fld (pv 0) (by rfl)) (pa_cons (pv 4) pa_nil))))) (by rfl))
      (pss_cons (ps_fld (pv 0) (pe_lock (pe_dc (own := [("making", 5)]) rfl sc_GI.nd (pi_keys (pe_fld (pv 0) (by rfl))) (blkOk_by (own := [("making", 5)]) (N := N_GI) (sc := defScope s_GI) (by decide +kernel)) (fun _ _ _ _ _ => pg_name (i := 5) sc_GI.nd rfl (Or.inl rfl)) (fun _ _ _ _ _ => pts_nil) (fun _ _ _ _ _ => pv 5) (fun _ _ _ _ _ => C8.pe_c ckept_by hr (by decide) (by rfl) (pa_cons (pv 5) (pa_cons (pe_fldK (K' := K) (by rfl) (pv 0) (by rfl)) pa_nil))))) (by rfl))
      (pss_one (ps_fld (pv 0) (pe_tup (pa_cons (pv 4) (pa_cons (pe_callB (cr_sortRows (hu65 hr)) (by rfl) T.sorted (by decide +kernel) (pa_cons (pv 1) pa_nil)) (pa_cons (pe_callB (cr_sortRows (hu65 hr)) (by rfl) T.sorted (by decide +kernel) (pa_cons (pv 2) pa_nil)) (pa_cons (pe_callB (cr_sortRows (hu65 hr)) (by rfl) T.sorted (by decide +kernel) (pa_cons (pv 3) pa_nil)) pa_nil))))) (by rfl))))))), ?_⟩
    have nls : ls ≠ x := fun z => by
      rw [z, hx] at hls
      cases hls
    have nlm : lm ≠ x := fun z => by
      rw [z, hx] at hlm
      cases hlm
    have nlr : lr ≠ x := fun z => by
      rw [z, hx] at hlr
      cases hlr
    have si : ∀ t ∈ rs.map sT, imm t.r = true := fun t ht => by
      obtain ⟨r', _, e⟩ := List.mem_map.mp ht
      rw [← e]
      exact sT_imm r'
    have mi : ∀ t ∈ ms.map mT, imm t.r = true := fun t ht => by
      obtain ⟨r', _, e⟩ := List.mem_map.mp ht
      rw [← e]
      exact mT_imm r'
    -- the cap
    refine ⟨_, rfl, roof, rfl, gf.rf, _, rfl, x, C, dx, [], rfl, hx, gc.c, gc.top, by decide, ?_⟩
    obtain ⟨H1, e1⟩ : ∃ H1, H1 = upd H x (.ins C dx (putF "top" (.int roof) [])) := ⟨_, rfl⟩
    rw [← e1]
    have hx1 : H1 x = some (.ins C dx (g1 (.int roof))) := by rw [e1, upd_same, pf1]
    have b1 : But x H H1 := e1 ▸ But.upd (But.refl x H)
    have k1 : KeepT H H1 := e1 ▸ KeepT.at_ hx ins_no
    -- the sorts
    refine ⟨_, rfl, ls, sv, rs, rfl, b1 _ _ nls hls, dpAll_imm k1 hsv (immAll_map SRow.imm rs), gf.so, fun H2 sd skv s2 nsd hsd htab => ?_⟩
    refine ⟨_, rfl, x, C, dx, _, rfl, s2 _ _ hx1, gc.c, gc.sort, by show 1 < 1000; decide, ?_⟩
    obtain ⟨H3, e3⟩ : ∃ H3, H3 = upd H2 x (.ins C dx (putF "sort_table" (.ref sd) (g1 (.int roof)))) := ⟨_, rfl⟩
    rw [← e3]
    have hx3 : H3 x = some (.ins C dx (g2 (.int roof) (.ref sd))) := by rw [e3, upd_same, pf2]
    have b23 : But x H2 H3 := e3 ▸ But.upd (But.refl x H2)
    have k23 : KeepT H2 H3 := e3 ▸ KeepT.at_ (s2 _ _ hx1) ins_no
    have b3 : But x H H3 := (b1.trans (But.of s2)).trans b23
    have k3 : KeepT H H3 := (k1.trans (KeepT.of s2)).trans k23
    have nsx : sd ≠ x := fun z => by
      rw [z, hx1] at nsd
      cases nsd
    have hsd3 := b23 _ _ nsx hsd
    have htab3 := htab.keep k23 si
    -- the makings
    refine ⟨_, rfl, _, rfl, x, C, dx, _, .ref sd, rfl, hx3, gc.c, gc.sort, lk2 _ _, lm, sd, mv, rs, ms, skv, rfl, b3 _ _ nlm hlm, dpAll_imm k3 hmv (immAll_map MRow.imm ms), gf.so, gf.nd, gf.ok, gf.m8, hsd3, htab3, fun H4 md kvs s4 nmd hmd hmtab => ?_⟩
    refine ⟨_, rfl, x, C, dx, _, rfl, s4 _ _ hx3, gc.c, gc.making, by show 2 < 1000; decide, ?_⟩
    obtain ⟨H5, e5⟩ : ∃ H5, H5 = upd H4 x (.ins C dx (putF "making_table" (.ref md) (g2 (.int roof) (.ref sd)))) := ⟨_, rfl⟩
    rw [← e5]
    have hx5 : H5 x = some (.ins C dx (g3 (.int roof) (.ref sd) (.ref md))) := by rw [e5, upd_same, pf3]
    have b45 : But x H4 H5 := e5 ▸ But.upd (But.refl x H4)
    have k45 : KeepT H4 H5 := e5 ▸ KeepT.at_ (s4 _ _ hx3) ins_no
    have b5 : But x H H5 := (b3.trans (But.of s4)).trans b45
    have k5 : KeepT H H5 := (k3.trans (KeepT.of s4)).trans k45
    have nmx : md ≠ x := fun z => by
      rw [z, hx3] at nmd
      cases nmd
    have hmd5 := b45 _ _ nmx hmd
    have hmtab5 := hmtab.keep k45 mi
    have hsd5 := b45 _ _ nsx (s4 _ _ hsd3)
    have htab5 := htab3.keep ((KeepT.of s4).trans k45) si
    -- the rules
    refine ⟨_, rfl, _, rfl, x, C, dx, _, .ref md, rfl, hx5, gc.c, gc.making, lk3 _ _ _, _, rfl, x, C, dx, _, .ref sd, rfl, hx5, gc.c, gc.sort, lk3b _ _ _, _, rfl, lr, md, sd, roof, rv, rs, ms, ru, rfl, b5 _ _ nlr hlr, dpAll_imm k5 hrv (immAll_map RRow.imm ru), ⟨⟨kvs, hmd5, hmtab5⟩, ⟨skv, hsd5, htab5⟩, gf.so, gf.nd, gf.ok⟩, gf.ra, gf.rn, gf.rl, gf.kf, fun H6 rd nvs s6 nrd hrd hpr => ?_⟩
    refine ⟨_, rfl, x, C, dx, _, rfl, s6 _ _ hx5, gc.c, gc.rule, by show 3 < 1000; decide, ?_⟩
    obtain ⟨H7, e7⟩ : ∃ H7, H7 = upd H6 x (.ins C dx (putF "rule_table" (.ref rd) (g3 (.int roof) (.ref sd) (.ref md)))) := ⟨_, rfl⟩
    rw [← e7]
    have hx7 : H7 x = some (.ins C dx (g4 (.int roof) (.ref sd) (.ref md) (.ref rd))) := by rw [e7, upd_same, pf4]
    have b67 : But x H6 H7 := e7 ▸ But.upd (But.refl x H6)
    have k67 : KeepT H6 H7 := e7 ▸ KeepT.at_ (s6 _ _ hx5) ins_no
    have b7 : But x H H7 := (b5.trans (But.of s6)).trans b67
    have k7 : KeepT H H7 := (k5.trans (KeepT.of s6)).trans k67
    have nrx : rd ≠ x := fun z => by
      rw [z, hx5] at nrd
      cases nrd
    have nrm : rd ≠ md := fun z => by
      rw [z, hmd5] at nrd
      cases nrd
    have hrd7 := b67 _ _ nrx hrd
    have hpr7 := hpr.keep k67
    have hmd7 := b67 _ _ nmx (s6 _ _ hmd5)
    have hmtab7 := hmtab5.keep ((KeepT.of s6).trans k67) mi
    have hsd7 := b67 _ _ nsx (s6 _ _ hsd5)
    have htab7 := htab5.keep ((KeepT.of s6).trans k67) si
    -- what is kept
    refine ⟨md, .dK kvs, hmd7, trivial, fun od => ?_⟩
    have nxm : x ≠ md := Ne.symm nmx
    have k8 : KeepT H7 (upd H7 md (.frz od (.dK kvs))) := KeepT.at_ hmd7 dK_no
    have hx8 : (upd H7 md (.frz od (.dK kvs))) x = some (.ins C dx (g4 (.int roof) (.ref sd) (.ref md) (.ref rd))) := by rw [upd_ne nxm]; exact hx7
    have hrd8 : (upd H7 md (.frz od (.dK kvs))) rd = some (dnO P w rd nvs) := by rw [upd_ne nrm]; exact hrd7
    have hfz8 : (upd H7 md (.frz od (.dK kvs))) md = some (.frz od (.dK kvs)) := upd_same
    refine ⟨_, rfl, x, C, dx, _, .ref md, rfl, hx8, gc.c, gc.making, lk4 _ _ _ _, md, od, rfl, .inl ⟨kvs, hfz8, fun D nD => ?_⟩⟩
    have lk : kvs.length = ms.length := by
      have := hmtab7.len
      rw [List.length_map] at this
      exact this
    have h8 := gf.m8
    refine dc_it walk_keys (fun i Y => Same (upd H7 md (.frz od (.dK kvs))) Y ∧ ∃ kk, Y D = some (.dK kk) ∧ kk.length ≤ i ∧ ∀ m ∈ ms.take i, ∃ l ys, valV kk (kS m.nm) = some (.ref l) ∧ H l = none ∧ l ≠ D ∧ Y l = some (.lst (ys.map V.str)) ∧ ys.Perm (gotTx ((keptNames m.nm ru).map SX.S)) ∧ sortedS ys = true)
      ⟨same_upd nD, [], upd_same, Nat.le_refl _, fun m hm => nomatch hm⟩ (fun i Y _ h => h.1 _ _ hfz8) ?_ ?_
    · rintro i v Y0 Y hi ⟨sY, kk, hD, hkl, hall⟩ ⟨rfl, k, v', hk, rfl⟩
      obtain ⟨m, hm, rfl⟩ : ∃ m, ms[i]? = some m ∧ k = kS m.nm := tab_at hmtab7 hk
      have hmm := List.mem_of_getElem? hm
      have few := gf.ko m hmm
      refine ⟨rfl, yesT ?_⟩
      refine ⟨_, rfl, _, rfl, _, rfl, x, C, dx, _, .ref rd, rfl, sY _ _ hx8, gc.c, gc.rule, lk4b _ _ _ _, m.nm, rd, nvs, ru, rfl, sY _ _ hrd8, (hpr7.keep k8).keep (KeepT.of sY), gf.rn, gf.rl, fun r' hr' => ?_, by omega, fun Y2 l ys s2' n2 hl2 hys hso => ?_⟩
      · have h' := gf.ra r' hr'
        obtain ⟨o', _, h2, _⟩ := op_of h'.op
        rw [h'.ar, h2]
        exact op_n3 o'
      have hD2 := s2' _ _ hD
      have nlD : l ≠ D := fun z => by
        rw [z, hD] at n2
        cases n2
      have nlH : H l = none := by
        cases hz : H l with
        | none => rfl
        | some o =>
          have nlx : l ≠ x := fun z => by
            rw [z, sY _ _ hx8] at n2
            cases n2
          have h7 := b7 _ _ nlx hz
          by_cases hlm7 : l = md
          · rw [hlm7, sY _ _ hfz8] at n2
            cases n2
          · have h8 : (upd H7 md (.frz od (.dK kvs))) l = some o := by
              rw [upd_ne hlm7]
              exact h7
            rw [sY _ _ h8] at n2
            cases n2
      refine ⟨kk, kS m.nm, rfl, hD2, small1000 (by omega), Same.at_ (sY.trans s2') nD, _, upd_same, ?_, fun m' hm' => ?_⟩
      · have := length_putK kk (kS m.nm) (.ref l)
        omega
      · rw [List.take_add_one, hm] at hm'
        rw [valV_put]
        rcases List.mem_append.mp hm' with hm' | hm'
        · obtain ⟨l', ys', h1, h0, h2, h3, h4, h5⟩ := hall m' hm'
          have nn : m'.nm ≠ m.nm := fun z => new_name (f := MRow.nm) gf.nd hm (z ▸ List.mem_map_of_mem hm')
          refine ⟨l', ys', ?_, h0, h2, by rw [upd_ne h2]; exact s2' _ _ h3, h4, h5⟩
          rw [if_neg (fun z => nn (kS_inj z))]
          exact h1
        · have : m' = m := by simpa using hm'
          subst this
          exact ⟨l, ys, if_pos rfl, nlH, nlD, by rw [upd_ne nlD]; exact hl2, hys, hso⟩
    · rintro Y ⟨sY, kk, hD, hkl, hall⟩
      rw [lk, List.take_length] at hall
      refine ⟨sY _ _ hfz8, ?_⟩
      have sZ : Same H7 (upd Y md (.dK kvs)) := fun b o hb => by
        by_cases z : b = md
        · rw [z, hmd7] at hb
          rw [z, upd_same]
          exact hb
        · rw [upd_ne z]
          exact sY b o (by rw [upd_ne z]; exact hb)
      have nDm : D ≠ md := fun z => by
        rw [z, hfz8] at nD
        cases nD
      have ktZ : KTab H (upd Y md (.dK kvs)) D ms ru := ⟨kk, by rw [upd_ne nDm]; exact hD, fun m hm => by
        obtain ⟨l, ys, h1, h0, h2, h3, h4, h5⟩ := hall m hm
        refine ⟨l, ys, h1, h0, ?_, h4, h5⟩
        rw [upd_ne (fun z => by rw [z, sY _ _ hfz8] at h3; cases h3)]
        exact h3⟩
      obtain ⟨Z, eZ⟩ : ∃ Z, Z = upd Y md (.dK kvs) := ⟨_, rfl⟩
      rw [← eZ] at sZ ktZ ⊢
      refine ⟨_, rfl, x, C, dx, _, rfl, sZ _ _ hx7, gc.c, gc.kept, by show 4 < 1000; decide, ?_⟩
      obtain ⟨H9, e9⟩ : ∃ H9, H9 = upd Z x (.ins C dx (putF "kept_table" (.ref D) (g4 (.int roof) (.ref sd) (.ref md) (.ref rd)))) := ⟨_, rfl⟩
      rw [← e9]
      have hx9 : H9 x = some (.ins C dx (g5 (.int roof) (.ref sd) (.ref md) (.ref rd) (.ref D))) := by rw [e9, upd_same, pf5]
      have b9' : But x Z H9 := e9 ▸ But.upd (But.refl x Z)
      have k9' : KeepT Z H9 := e9 ▸ KeepT.at_ (sZ _ _ hx7) ins_no
      have b9 : But x H H9 := (b7.trans (But.of sZ)).trans b9'
      have k9 : KeepT H H9 := (k7.trans (KeepT.of sZ)).trans k9'
      -- the rows, risen
      refine ⟨_, rfl, _, rfl, ls, sv, _, rfl, SqL.of (b9 _ _ nls hls), dpAll_imm k9 hsv (immAll_map SRow.imm rs), rows_sorts gf.so, fun ys1 p1 _ n1 => ?_⟩
      have sA := same_upd (o := .lst ys1) n1
      refine ⟨_, rfl, lm, mv, _, rfl, SqL.of (sA _ _ (b9 _ _ nlm hlm)), dpAll_same sA (dpAll_imm k9 hmv (immAll_map MRow.imm ms)), rows_maks gf.nd, fun ys2 p2 _ n2 => ?_⟩
      have sB := sA.trans (same_upd (o := .lst ys2) n2)
      refine ⟨_, rfl, lr, rv, _, rfl, SqL.of (sB _ _ (b9 _ _ nlr hlr)), dpAll_same sB (dpAll_imm k9 hrv (immAll_map RRow.imm ru)), rows_rules gf.rn, fun ys3 p3 _ n3 => ?_⟩
      have sC := sB.trans (same_upd (o := .lst ys3) n3)
      refine ⟨by show 4 ≤ sizeLine; decide, fun rt nrt => ?_⟩
      have sD := sC.trans (same_upd (o := .tup [.int roof, .ref p1, .ref p2, .ref p3]) nrt)
      refine ⟨_, rfl, x, C, dx, _, rfl, sD _ _ hx9, gc.c, gc.risen, by show 5 < 1000; decide, ?_⟩
      have bZW := (b9'.trans (But.of sD)).trans (But.upd (o := .ins C dx (putF "risen" (.ref rt) (g5 (.int roof) (.ref sd) (.ref md) (.ref rd) (.ref D)))) (But.refl x _))
      have kZW := (k9'.trans (KeepT.of sD)).trans (KeepT.at_ (o := .ins C dx (putF "risen" (.ref rt) (g5 (.int roof) (.ref sd) (.ref md) (.ref rd) (.ref D)))) (sD _ _ hx9) ins_no)
      have nDx : D ≠ x := fun z => by
        rw [z, hx8] at nD
        cases nD
      obtain ⟨kk', hkk, hkt⟩ := ktZ
      refine q _ ((b7.trans (But.of sZ)).trans bZW) ⟨dx, sd, md, rd, D, rt, by rw [upd_same, pf6], ⟨skv, bZW _ _ nsx (sZ _ _ hsd7), htab7.keep ((KeepT.of sZ).trans kZW) si⟩, ⟨kvs, bZW _ _ nmx (sZ _ _ hmd7), hmtab7.keep ((KeepT.of sZ).trans kZW) mi⟩, ⟨nvs, bZW _ _ nrx (sZ _ _ hrd7), hpr7.keep ((KeepT.of sZ).trans kZW)⟩, ⟨kk', bZW _ _ nDx hkk, fun m hm => ?_⟩⟩
      obtain ⟨l, ys, h1, h0, h3, h4, h5⟩ := hkt m hm
      exact ⟨l, ys, h1, h0, bZW _ _ (fun z => by rw [z, sZ _ _ hx7] at h3; cases h3) h3, h4, h5⟩
end
/-! ### what is drawn is a grammar -/
theorem kept_in {m w : List Nat} {ru : List RRow} (h : w ∈ keptNames m ru) : ∃ r ∈ ru, r.ma = m ∧ ∃ o ∈ rOds r, w ∈ odName o := by
  unfold keptNames odsOf at h
  obtain ⟨o, ho, hw⟩ := List.mem_flatMap.mp h
  obtain ⟨r, hr, ho⟩ := List.mem_flatMap.mp ho
  obtain ⟨hr, e⟩ := List.mem_filter.mp hr
  exact ⟨r, hr, of_decide_eq_true e, o, ho, hw⟩
structure RuFit (rs : List SRow) (ms : List MRow) (ru : List RRow) (roof : Nat) : Prop where
  ra : ∀ r ∈ ru, RuleOk rs ms roof r
  rn : RuNd ru
  rl : ru.length ≤ 30 * ms.length
  ks : ∀ m ∈ ms, ∃ ks : List (List Nat), ks.length ≤ 2 ∧ ∀ r ∈ ru, r.ma = m.nm → ∀ o ∈ rOds r, ∀ w ∈ odName o, w ∈ ks
theorem ru_fit {rs : List SRow} {roof : Nat} : ∀ {ms : List MRow} {ru : List RRow}, RuAll rs roof ms ru → (ms.map MRow.nm).Nodup → RuFit rs ms ru roof := by
  intro ms ru h
  induction h with
  | nil =>
    intro _
    refine ⟨?_, List.Pairwise.nil, Nat.le_refl _, ?_⟩
    · intro r h
      cases h
    · intro m h
      cases h
  | @snoc ms ru pr mr ks h hok ih =>
    intro hn
    rw [List.map_append] at hn
    obtain ⟨n1, _, n3⟩ := List.nodup_append.mp hn
    have F := ih n1
    have old : ∀ m ∈ ms, m.nm ≠ mr.nm := fun m hm => n3 _ (List.mem_map_of_mem hm) _ (List.mem_map_of_mem (List.mem_singleton.mpr rfl))
    have rold : ∀ r ∈ ru, r.ma ≠ mr.nm := fun r hr => by
      obtain ⟨m, hm, e, _⟩ := (F.ra r hr).ex
      rw [e]
      exact old m hm
    refine ⟨fun r hr => ?_, ?_, ?_, fun m hm => ?_⟩
    · rcases List.mem_append.mp hr with hr | hr
      · obtain ⟨⟨m, hm, e⟩, h2, h3⟩ := F.ra r hr
        exact ⟨⟨m, List.mem_append_left _ hm, e⟩, h2, h3⟩
      · exact ⟨⟨mr, List.mem_append_right _ (List.mem_singleton.mpr rfl), hok.ma r hr, hok.tg r hr, hok.os r hr⟩, hok.op r hr, hok.ar r hr⟩
    · refine List.pairwise_append.mpr ⟨F.rn, ?_, fun r hr r' hr' e => absurd (e.trans (hok.ma r' hr')) (rold r hr)⟩
      have hp : pr.Pairwise fun r r' => r.tg ≠ r'.tg := List.pairwise_map.mp hok.nd
      exact hp.imp (fun {a b} h (_ : a.ma = b.ma) => h)
    · rw [List.length_append, List.length_append, List.length_singleton]
      have := F.rl
      have := hok.le
      omega
    · rcases List.mem_append.mp hm with hm | hm
      · obtain ⟨k0, h2, hk⟩ := F.ks m hm
        refine ⟨k0, h2, fun r hr e => ?_⟩
        rcases List.mem_append.mp hr with hr | hr
        · exact hk r hr e
        · exact absurd (e.symm.trans (hok.ma r hr)) (old m hm)
      · obtain rfl := List.mem_singleton.mp hm
        refine ⟨ks, hok.k2, fun r hr e o ho w hw => ?_⟩
        rcases List.mem_append.mp hr with hr | hr
        · exact absurd e (rold r hr)
        · rcases List.mem_cons.mp ho with rfl | ho
          · exact hok.kt r hr w hw
          · exact hok.ko r hr o ho w hw
theorem gfit {rs : List SRow} {ms : List MRow} {ru : List RRow} {roof : Nat} (g : GramOk rs ms ru roof) : GFit rs ms ru roof := by
  have F := ru_fit g.ru g.nd
  have m8 := g.m8
  have rl := F.rl
  have few : ∀ m ∈ ms, ∃ ks : List (List Nat), ks.length ≤ 2 ∧ ∀ w ∈ keptNames m.nm ru, w ∈ ks := fun m hm => by
    obtain ⟨ks, h2, hk⟩ := F.ks m hm
    refine ⟨ks, h2, fun w hw => ?_⟩
    obtain ⟨r, hr, e, o, ho, hw⟩ := kept_in hw
    exact hk r hr e o ho w hw
  refine ⟨g.so, g.nd, g.ok, g.m8, F.ra, F.rn, by omega, fun r hr => ?_, fun m hm => ?_, g.rf⟩
  · obtain ⟨m, hm, e, _⟩ := (F.ra r hr).ex
    rw [e]
    exact few m hm
  · obtain ⟨ks, h2, hk⟩ := few m hm
    refine Nat.le_trans (nodup_leA (f := ks.map SX.S) (gotTx_nodup _) fun u hu => ?_) (by rw [List.length_map]; exact h2)
    obtain ⟨w, hw, rfl⟩ := List.mem_map.mp (gotTx_mem.mp hu)
    exact List.mem_map_of_mem (hk w hw)
abbrev s__law_made : Stmt := top 70
abbrev N__law_made : List Str := ["_law_g"]
abbrev P__law_made : List Str := ["_law_g"]
theorem sc__law_made : FnScope N__law_made P__law_made (defScope s__law_made) := ⟨rfl, rfl, rfl, by decide +kernel, rfl, by decide +kernel, by decide +kernel⟩
/-- the class and how it makes -/
structure GMk (P : Program) (w : World) (K : PySem.W.Frag) (mg : Str → Option Value) (base : Heap) (C : Addr) : Prop where
  ex : ∃ (f : Addr) (fd : FuncData), FnOk P w K mg base CX0 6 f fd P_GI (spGI K P w C) ∧ Mk K C f ∧ mg "Grammar" = some (.ref C) ∧ KBn K fd P_GI 4 ["cap"] (fun us ws => us ++ ws) (fun vs zs => vs ++ zs)
theorem gmk_of {P : Program} {w : World} {K : PySem.W.Frag} {mg : Str → Option Value} {base : Heap} {C f : Addr} {fd : FuncData} (F : FunD K "__init__" "Grammar.__init__" (defArgs s_GI) (defBody s_GI) (defScope s_GI) [] [("cap", .int 0)] f fd) (ok : FnOk P w K mg base CX0 6 f fd P_GI (spGI K P w C)) (M : Mk K C f) (hm : mg "Grammar" = some (.ref C)) : GMk P w K mg base C := by
  refine ⟨f, fd, ok, M, hm, ?_⟩
  exact kbindsN (ps := P_GI) F 4 ["cap"] (fun us ws => us ++ ws) (fun h2 h3 => Vals.append h2 h3) (fun kV doc pm an cdv ct us ws hl hw => match us, ws, hl, hw with
    | [_, _, _, _], [_], _, _ => rfl)
def spMade (K : PySem.W.Frag) (P : Program) (w : World) (C : Addr) : Sp := fun vs H Q _ => ∃ (a gd : Addr) (rs : List SRow) (ms : List MRow) (ru : List RRow) (roof : Nat), vs = [.ref gd] ∧ GramIn K H a gd rs ms ru roof ∧ GFit rs ms ru roof ∧
  ∀ (H' : Hp) (x : Addr), Same H H' → H x = none → GrOk K P w C H H' x rs ms ru roof → Q (.ref x) H'
section
variable {P : Program} {w : World} {K : PySem.W.Frag} {mg : Str → Option Value} {base : Heap} {C : Addr}
theorem ok_made (T : Gb mg) (GK : GMk P w K mg base C) (D : Dd K mg "_law_made" s__law_made P__law_made) : C8.Cal P w K mg base 8 "_law_made" (spMade K P w C) [] := by
  obtain ⟨fG, fdG, FG, GM, gmg, gkb⟩ := GK.ex
  refine D.cal sc__law_made (fun vs H Q E h => ?_) (fun f cdv A outer s H vs Q E hr h => ?_)
  · obtain ⟨a, gd, rs, ms, ru, roof, rfl, _⟩ := h
    rfl
  · obtain ⟨a, gd, rs, ms, ru, roof, rfl, gi, gf, q⟩ := h
    obtain ⟨ls, lm, lr, of, gkv, gs, _⟩ := gi.ex
    obtain ⟨sv, hls, hsv⟩ := gs.hls
    obtain ⟨mv, hlm, hmv⟩ := gs.hlm
    obtain ⟨rv, hlr, hrv⟩ := gs.hlr
    have get : ∀ {Y : Hp} {k : Str} {v : V}, Same H Y → valV gkv (Sum.inr k) = some v → DGet Y gd (.str k) (some v) := fun {Y k v} sY e => by
      have h := DGet.k (k := Sum.inr k) (sY _ _ gs.hgd)
      rw [e] at h
      exact h
    refine ⟨_, (pss_one (ps_ret (pe_makeK GM FG (hr.mono (by decide)) (by rfl) gmg gkb pass0 (pa_cons (pe_callTy call_list_of (by rfl) T.list (by decide +kernel) (pa_cons (pe_dget (hu_of hr) (pv 0) pe_str (fun _ _ => rfl)) pa_nil)) (pa_cons (pe_callTy call_list_of (by rfl) T.list (by decide +kernel) (pa_cons (pe_dget (hu_of hr) (pv 0) pe_str (fun _ _ => rfl)) pa_nil)) (pa_cons (pe_callTy call_list_of (by rfl) T.list (by decide +kernel) (pa_cons (pe_dget (hu_of hr) (pv 0) pe_str (fun _ _ => rfl)) pa_nil)) pa_nil))) (pk_cons (pe_dget (hu_of hr) (pv 0) pe_str (fun _ _ => rfl)) pk_nil)))), ?_⟩
    refine ⟨_, rfl, gd, .ref ls, rfl, get (Same.refl H) gs.so, ?_⟩
    refine ⟨ls, sv, rfl, .inl (SqL.of hls), fun p1 n1 => ?_⟩
    have s1 := same_upd (o := .lst sv) n1
    refine ⟨_, rfl, gd, .ref lm, rfl, get s1 gs.mak, ?_⟩
    refine ⟨lm, mv, rfl, .inl (SqL.of (s1 _ _ hlm)), fun p2 n2 => ?_⟩
    have s2 := s1.trans (same_upd (o := .lst mv) n2)
    refine ⟨_, rfl, gd, .ref lr, rfl, get s2 gs.rl, ?_⟩
    refine ⟨lr, rv, rfl, .inl (SqL.of (s2 _ _ hlr)), fun p3 n3 => ?_⟩
    have s3 := s2.trans (same_upd (o := .lst rv) n3)
    refine ⟨_, rfl, gd, .int roof, rfl, get s3 gs.cap, ?_⟩
    refine ⟨rfl, rfl, fun x dx nx ndx ndd => ?_⟩
    have nx2 : (upd (upd (upd (upd H p1 (.lst sv)) p2 (.lst mv)) p3 (.lst rv)) dx (.own x)) x = none := by
      rw [upd_ne (Ne.symm ndd)]
      exact nx
    have s5 := (same_upd (o := .own x) ndx).trans (same_upd (o := .ins C dx []) nx2)
    have sU := s3.trans s5
    have h1 := s5 _ _ (same_upd (o := .lst rv) n3 _ _ (same_upd (o := .lst mv) n2 _ _ (upd_same (H := H) (a := p1) (o := .lst sv))))
    have h2 := s5 _ _ (same_upd (o := .lst rv) n3 _ _ (upd_same (H := upd H p1 (.lst sv)) (a := p2) (o := .lst mv)))
    have h3 := s5 _ _ (upd_same (H := upd (upd H p1 (.lst sv)) p2 (.lst mv)) (a := p3) (o := .lst rv))
    have hx0 := s3.free nx
    refine ⟨x, dx, p1, p2, p3, roof, sv, mv, rv, rs, ms, ru, rfl, upd_same, h1, h2, h3, dpAll_same sU hsv, dpAll_same sU hmv, dpAll_same sU hrv, gf, fun H' bt gr => ⟨rfl, q _ x (fun b o hb => bt b o (ne_of_none hb hx0) (sU b o hb)) hx0 (gr.less sU)⟩⟩
end
/-! ### the eighteen errors: what __init__ leaves -/
def spOneD (K : PySem.W.Frag) (C : Addr) (f : Str) (n : Nat) : Sp := fun vs H Q _ => ∃ (e : Addr) (x : V) (d : PyData), vs = [.ref e, x] ∧ Dp K H x d ∧ Sm n d ∧ H e = some (exo e C none) ∧
  ∀ (H' : Hp) (dd : Addr) (y : V), H dd = none → dd ≠ e → H' e = some (exo e C (some dd)) → H' dd = some (exd dd [(f, y)]) → But e H H' → Dp K (Nw H H') y d → Q .non H'
def spTwoD (K : PySem.W.Frag) (C : Addr) (f1 f2 : Str) (n : Nat) : Sp := fun vs H Q _ => ∃ (e : Addr) (x1 x2 : V) (d1 d2 : PyData), vs = [.ref e, x1, x2] ∧ Dp K H x1 d1 ∧ Sm n d1 ∧ Dp K H x2 d2 ∧ Sm n d2 ∧ H e = some (exo e C none) ∧
  ∀ (H' : Hp) (dd : Addr) (y1 y2 : V), H dd = none → dd ≠ e → H' e = some (exo e C (some dd)) → H' dd = some (exd dd [(f2, y2), (f1, y1)]) → But e H H' → Dp K (Nw H H') y1 d1 → Dp K (Nw H H') y2 d2 → Q .non H'
abbrev s_NoName : Stmt := inClass (top 15) 0
abbrev N_NoName : List Str := ["self", "name"]
theorem sc_NoName : FnScope N_NoName N_NoName (defScope s_NoName) := ⟨rfl, rfl, rfl, by decide +kernel, rfl, by decide +kernel, by decide +kernel⟩
section
variable {K : PySem.W.Frag} {H H' : Hp} {e C : Addr}
theorem exo_lst {od : Option Addr} {xs : List V} : exo e C od ≠ .lst xs := fun z => by
  have z' : HO.ext _ = HO.lst xs := z
  cases z'
theorem exo_tup' {od : Option Addr} {xs : List V} : exo e C od ≠ .tup xs := fun z => by
  have z' : HO.ext _ = HO.tup xs := z
  cases z'
theorem exo_frz' {od : Option Addr} {o : Obj} {v : HO} : exo e C od ≠ .frz o v := fun z => by
  have z' : HO.ext _ = HO.frz o v := z
  cases z'
theorem off_exo {od : Option Addr} {a : Addr} {o : HO} (he : H e = some (exo e C od)) (h : H a = some o) (n : exo e C od ≠ o) : a ≠ e := fun z => by
  rw [z, he] at h
  exact n (Option.some.inj h)
mutual
theorem dp_but {od : Option Addr} (he : H e = some (exo e C od)) (s : But e H H') : ∀ {v : V} {d : PyData}, Dp K H v d → Dp K H' v d
  | _, _, .non => .non
  | _, _, .bl b => .bl b
  | _, _, .int i => .int i
  | _, _, .str x => .str x
  | _, _, .lst h a => .lst (by
    rcases h with (h | ⟨o, h⟩) | h
    · exact .inl (.inl (s _ _ (off_exo he h exo_lst) h))
    · exact .inl (.inr ⟨o, s _ _ (off_exo he h exo_frz') h⟩)
    · exact .inr h) (dpAll_but he s a)
  | _, _, .tup h a => .tup (by
    rcases h with (h | ⟨o, h⟩) | h
    · exact .inl (.inl (s _ _ (off_exo he h exo_tup') h))
    · exact .inl (.inr ⟨o, s _ _ (off_exo he h exo_frz') h⟩)
    · exact .inr h) (dpAll_but he s a)
theorem dpAll_but {od : Option Addr} (he : H e = some (exo e C od)) (s : But e H H') : ∀ {vs : List V} {ds : List PyData}, DpAll K H vs ds → DpAll K H' vs ds
  | _, _, .nil => .nil
  | _, _, .cons h a => .cons (dp_but he s h) (dpAll_but he s a)
end
end
section
variable {K : PySem.W.Frag} {C : Addr} {B : String} {n : Nat}
theorem one_left {f : Str} {m : Str} {Q : VK} {H : Hp} {e : Addr} {x : V} {d : PyData} (O : OxC K C B) (h1 : PySem.W.findIn K (.ref C) f = some none) (hx : Dp K H x d) (hs : Sm n d) (he : H e = some (exo e C none))
    (q : ∀ (H' : Hp) (dd : Addr) (y : V), H dd = none → dd ≠ e → H' e = some (exo e C (some dd)) → H' dd = some (exd dd [(f, y)]) → But e H H' → Dp K (Nw H H') y d → Q .non H') :
    tSeq (tDrop (tBI K B (tCons (tVar 0) (tCons (tC (.str m)) tNil)))) (tOxs K f (tVar 0) (tCall (spOwnD K n) [] E0 (tCons (tVar 1) tNil))) { nx := fun _ H' => Q .non H', rt := Q } [some (.ref e), some x] H := by
  refine ⟨_, rfl, e, C, _, rfl, by show 1 ≤ 1000; decide, O, he, ?_⟩
  refine ⟨_, rfl, x, d, rfl, hx, hs, fun H1 y s1 hy => ?_⟩
  refine ⟨_, rfl, e, C, B, rfl, O, h1, .inl ⟨s1 _ _ he, fun dd nd nde => ?_⟩⟩
  refine q _ dd y (s1.free nd) nde upd_same (by rw [upd_ne nde, upd_same]) (fun z o nz hz => ?_) (dp_same (fun z o hz => ?_) hy)
  · rw [upd_ne nz, upd_ne (ne_of_none (s1 _ _ hz) nd)]
    exact s1 _ _ hz
  · obtain ⟨e1, e2⟩ := Nw.get hz
    exact Nw.mk e1 (by rw [upd_ne (fun z2 => by rw [z2, he] at e1; cases e1), upd_ne (ne_of_none e2 nd)]; exact e2)
theorem two_left {f1 f2 : Str} {m : Str} {Q : VK} {H : Hp} {e : Addr} {x1 x2 : V} {d1 d2 : PyData} (O : OxC K C B) (h1 : PySem.W.findIn K (.ref C) f1 = some none) (h2 : PySem.W.findIn K (.ref C) f2 = some none) (hx1 : Dp K H x1 d1) (hs1 : Sm n d1) (hx2 : Dp K H x2 d2) (hs2 : Sm n d2) (he : H e = some (exo e C none))
    (q : ∀ (H' : Hp) (dd : Addr) (y1 y2 : V), H dd = none → dd ≠ e → H' e = some (exo e C (some dd)) → H' dd = some (exd dd [(f2, y2), (f1, y1)]) → But e H H' → Dp K (Nw H H') y1 d1 → Dp K (Nw H H') y2 d2 → Q .non H') :
    tSeq (tDrop (tBI K B (tCons (tVar 0) (tCons (tC (.str m)) tNil)))) (tSeq (tOxs K f1 (tVar 0) (tCall (spOwnD K n) [] E0 (tCons (tVar 1) tNil))) (tOxs K f2 (tVar 0) (tCall (spOwnD K n) [] E0 (tCons (tVar 2) tNil)))) { nx := fun _ H' => Q .non H', rt := Q } [some (.ref e), some x1, some x2] H := by
  refine ⟨_, rfl, e, C, _, rfl, by show 1 ≤ 1000; decide, O, he, ?_⟩
  refine ⟨_, rfl, x1, d1, rfl, hx1, hs1, fun H1 y1 s1 hy1 => ?_⟩
  refine ⟨_, rfl, e, C, B, rfl, O, h1, .inl ⟨s1 _ _ he, fun dd nd nde => ?_⟩⟩
  have b1 : But e H (upd (upd H1 dd (exd dd [(f1, y1)])) e (exo e C (some dd))) := fun z o nz hz => by
    rw [upd_ne nz, upd_ne (ne_of_none (s1 _ _ hz) nd)]
    exact s1 _ _ hz
  refine ⟨_, rfl, x2, d2, rfl, ?_, hs2, fun H2 y2 s2 hy2 => ?_⟩
  · exact dp_but he b1 hx2
  have e2 : H2 e = some (exo e C (some dd)) := s2 _ _ upd_same
  have g2 : H2 dd = some (exd dd [(f1, y1)]) := s2 _ _ (by rw [upd_ne nde, upd_same])
  refine ⟨_, rfl, e, C, B, rfl, O, h2, .inr ⟨dd, _, e2, g2, by show 1 ≤ 900; decide, ?_⟩⟩
  refine q _ dd y1 y2 (s1.free nd) nde (by rw [upd_ne nde.symm]; exact e2) upd_same (fun z o nz hz => ?_) (dp_same (fun z o hz => ?_) hy1) (dp_same (fun z o hz => ?_) hy2)
  · rw [upd_ne (ne_of_none (s1 _ _ hz) nd)]
    exact s2 _ _ (b1 _ _ nz hz)
  · obtain ⟨w1, w2⟩ := Nw.get hz
    have nze : z ≠ e := fun z2 => by
      rw [z2, he] at w1
      cases w1
    have nzd : z ≠ dd := ne_of_none w2 nd
    exact Nw.mk w1 (by rw [upd_ne nzd]; exact s2 _ _ (by rw [upd_ne nze, upd_ne nzd]; exact w2))
  · obtain ⟨w1, w2⟩ := Nw.get hz
    have nze : z ≠ e := fun z2 => by
      rw [z2, upd_same] at w1
      cases w1
    have nzd : z ≠ dd := fun z2 => by
      rw [z2, upd_ne nde, upd_same] at w1
      cases w1
    rw [upd_ne nze, upd_ne nzd] at w1
    exact Nw.mk (s1.free w1) (by rw [upd_ne nzd]; exact w2)
end
section
variable {P : Program} {w : World} {K : PySem.W.Frag} {mg : Str → Option Value} {base : Heap} {C : Addr}
theorem ok_NoName {n : Nat} {f : Addr} {fd : FuncData} (cown_copy : C8.Cal P w K mg base (n + 1) "own_copy" (spOwnD K n) []) (F : L2.Fun K "__init__" "NoName.__init__" s_NoName f fd) (O : OxC K C "KeyError") (b : BInit K "KeyError") (mV : mg "KeyError" = none) (h1 : PySem.W.findIn K (.ref C) "name" = some none) :
    FnOk P w K mg base CX0 (n + 2) f fd N_NoName (spOneD K C "name" n) := by
  refine F.ok sc_NoName (fun vs H Q E h => ?_) (fun cdv A outer s H vs Q E hr h => ?_)
  · obtain ⟨e, x, d, rfl, _⟩ := h
    rfl
  · obtain ⟨e, x, d, rfl, hx, hs, he, q⟩ := h
    refine ⟨_, pss_cons (ps_expr (pe_binit b (by rfl) mV (pa_cons (pv 0) (pa_cons pe_str pa_nil)))) (pss_one (ps_oxs (pv 0) (C8.pe_c cown_copy hr (by omega) (by rfl) (pa_cons (pv 1) pa_nil)))), ?_⟩
    exact one_left O h1 hx hs he q
end
/-! ### errors held as values, and what they bear -/
def SeqO (o : HO) : Prop := (∃ xs, o = .lst xs) ∨ (∃ xs, o = .tup xs) ∨ ∃ o' v, o = .frz o' v
section
variable {K : PySem.W.Frag} {H H' : Hp}
mutual
theorem dp_tr (s : ∀ a o, SeqO o → H a = some o → H' a = some o) : ∀ {v : V} {d : PyData}, Dp K H v d → Dp K H' v d
  | _, _, .non => .non
  | _, _, .bl b => .bl b
  | _, _, .int i => .int i
  | _, _, .str x => .str x
  | _, _, .lst h a => .lst (by
    rcases h with (h | ⟨o, h⟩) | h
    · exact .inl (.inl (s _ _ (.inl ⟨_, rfl⟩) h))
    · exact .inl (.inr ⟨o, s _ _ (.inr (.inr ⟨_, _, rfl⟩)) h⟩)
    · exact .inr h) (dpAll_tr s a)
  | _, _, .tup h a => .tup (by
    rcases h with (h | ⟨o, h⟩) | h
    · exact .inl (.inl (s _ _ (.inr (.inl ⟨_, rfl⟩)) h))
    · exact .inl (.inr ⟨o, s _ _ (.inr (.inr ⟨_, _, rfl⟩)) h⟩)
    · exact .inr h) (dpAll_tr s a)
theorem dpAll_tr (s : ∀ a o, SeqO o → H a = some o → H' a = some o) : ∀ {vs : List V} {ds : List PyData}, DpAll K H vs ds → DpAll K H' vs ds
  | _, _, .nil => .nil
  | _, _, .cons h a => .cons (dp_tr s h) (dpAll_tr s a)
end
theorem exd_seq {d : Addr} {fs : List (Str × V)} : ¬ SeqO (exd d fs) := by
  rintro (⟨xs, z⟩ | ⟨xs, z⟩ | ⟨o', v, z⟩)
  · have z' : HO.ext _ = HO.lst xs := z
    cases z'
  · have z' : HO.ext _ = HO.tup xs := z
    cases z'
  · have z' : HO.ext _ = HO.frz o' v := z
    cases z'
theorem exo_seq {e C : Addr} {od : Option Addr} : ¬ SeqO (exo e C od) := by
  rintro (⟨xs, z⟩ | ⟨xs, z⟩ | ⟨o', v, z⟩)
  · exact exo_lst z
  · exact exo_tup' z
  · exact exo_frz' z
/-- an error of the class at C, its fields -/
def ErAt (H : Hp) (e C : Addr) (fs : List (Str × V)) : Prop := ∃ d, H e = some (exv e C d) ∧ H d = some (.xd fs)
theorem ErAt.same {e C : Addr} {fs : List (Str × V)} (h : ErAt H e C fs) (s : Same H H') : ErAt H' e C fs := by
  obtain ⟨d, h1, h2⟩ := h
  exact ⟨d, s _ _ h1, s _ _ h2⟩
/-- behind the making -/
theorem made_same {e C dd : Addr} {fs gs : List (Str × V)} (ne : H e = none) (nd : (upd H e (exo e C none)) dd = none) (b : But e (upd H e (exo e C none)) H') : Same H (upd (upd H' e (exv e C dd)) dd (.xd fs)) := fun z o hz => by
  have nze : z ≠ e := ne_of_none hz ne
  have hz2 : (upd H e (exo e C none)) z = some o := by
    rw [upd_ne nze]
    exact hz
  rw [upd_ne (ne_of_none hz2 nd), upd_ne nze]
  exact b _ _ nze hz2
theorem made_dp {e C dd : Addr} {fs gs : List (Str × V)} {y : V} {d : PyData} (he : H' e = some (exo e C (some dd))) (hd : H' dd = some (exd dd gs)) (h : Dp K (Nw (upd H e (exo e C none)) H') y d) : Dp K (upd (upd H' e (exv e C dd)) dd (.xd fs)) y d :=
  dp_tr (fun a o so ha => by
    obtain ⟨_, h2⟩ := Nw.get ha
    have n1 : a ≠ e := fun z => by
      rw [z, he] at h2
      cases h2
      exact exo_seq so
    have n2 : a ≠ dd := fun z => by
      rw [z, hd] at h2
      cases h2
      exact exd_seq so
    rw [upd_ne n2, upd_ne n1]
    exact h2) h
theorem mkv_one {C : Addr} {f : Str} {n : Nat} {x : V} {d : PyData} {Q : VK} (hx : Dp K H x d) (hs : Sm n d) (q : ∀ (G : Hp) (e : Addr) (y : V), Same H G → ErAt G e C [(f, y)] → Dp K G y d → Q (.ref e) G) :
    ∀ e, H e = none → spOneD K C f n [.ref e, x] (upd H e (exo e C none)) (fun v H2 => v = .non ∧ ∃ (d : Addr) (fs : List (Str × V)), H2 e = some (exo e C (some d)) ∧ H2 d = some (exd d fs) ∧ Q (.ref e) (upd (upd H2 e (exv e C d)) d (.xd fs))) (fun _ _ _ => False) := by
  intro e ne
  refine ⟨e, x, d, rfl, dp_same (same_upd ne) hx, hs, upd_same, fun H' dd y nd nde he hd b hy => ⟨rfl, dd, _, he, hd, ?_⟩⟩
  refine q _ e y (made_same (gs := []) ne nd b) ⟨dd, by rw [upd_ne nde.symm, upd_same], upd_same⟩ (made_dp he hd hy)
theorem mkv_two {C : Addr} {f1 f2 : Str} {n : Nat} {x1 x2 : V} {d1 d2 : PyData} {Q : VK} (hx1 : Dp K H x1 d1) (hs1 : Sm n d1) (hx2 : Dp K H x2 d2) (hs2 : Sm n d2)
    (q : ∀ (G : Hp) (e : Addr) (y1 y2 : V), Same H G → ErAt G e C [(f2, y2), (f1, y1)] → Dp K G y1 d1 → Dp K G y2 d2 → Q (.ref e) G) :
    ∀ e, H e = none → spTwoD K C f1 f2 n [.ref e, x1, x2] (upd H e (exo e C none)) (fun v H2 => v = .non ∧ ∃ (d : Addr) (fs : List (Str × V)), H2 e = some (exo e C (some d)) ∧ H2 d = some (exd d fs) ∧ Q (.ref e) (upd (upd H2 e (exv e C d)) d (.xd fs))) (fun _ _ _ => False) := by
  intro e ne
  refine ⟨e, x1, x2, d1, d2, rfl, dp_same (same_upd ne) hx1, hs1, dp_same (same_upd ne) hx2, hs2, upd_same, fun H' dd y1 y2 nd nde he hd b hy1 hy2 => ⟨rfl, dd, _, he, hd, ?_⟩⟩
  exact q _ e y1 y2 (made_same (gs := []) ne nd b) ⟨dd, by rw [upd_ne nde.symm, upd_same], upd_same⟩ (made_dp he hd hy1) (made_dp he hd hy2)
end
/-! ### found by a name, or not -/
abbrev s_found_by : Stmt := top 52
abbrev N_found_by : List Str := ["name", "table"]
abbrev P_found_by : List Str := ["name", "table"]
theorem sc_found_by : FnScope N_found_by P_found_by (defScope s_found_by) := ⟨rfl, rfl, rfl, by decide +kernel, rfl, by decide +kernel, by decide +kernel⟩
structure OxD (K : PySem.W.Frag) (mg : Str → Option Value) (C : Addr) (B : String) (x qual : Str) (st : Stmt) (ps : List Str) : Prop where
  ex : ∃ (f : Addr) (fd : FuncData), L2.Fun K "__init__" qual st f fd ∧ Binds K fd ps [] ∧ PySem.W.findIn K (.ref C) "__init__" = some (some (.ref f)) ∧ PySem.W.typeIn K (.ref f) = some (.type "function")
  ox : OxC K C B
  mg : mg x = some (.ref C)
/-- what is wished for where nothing is called so -/
def NoNm (K : PySem.W.Frag) (C : Addr) (H : Hp) (d : PyData) (E : XK) : Prop := ∀ (H' : Hp) (dd : Addr) (y : V), Same H H' → H dd = none → H' dd = some (.xd [("name", y)]) → Dp K (Nw H H') y d → E (.ref C) (some dd) H'
def spFound (K : PySem.W.Frag) (C : Addr) (sn : Nat) : Sp := fun vs H Q E => ∃ (v : V) (t : Addr) (d : PyData) (kvs : List (Key × V)), vs = [v, .ref t] ∧ Dp K H v d ∧ Sm sn d ∧ H t = some (.dK kvs) ∧
  ((∃ z u, d = .str z ∧ valV kvs (Sum.inr z) = some u ∧ Q u H) ∨ ((∀ z, d = .str z → valV kvs (Sum.inr z) = none) ∧ NoNm K C H d E))
def isS : PyData → Bool
  | .str _ => true
  | _ => false
theorem kit_strD {K : PySem.W.Frag} {H : Hp} {v : V} {d : PyData} (h : Dp K H v d) : kitB (tyD d) "str" = some (isS d) := by
  cases h with
  | non => exact (show kitB "NoneType" "str" = some false by decide +kernel)
  | bl _ => exact (show kitB "bool" "str" = some false by decide +kernel)
  | int _ => exact (show kitB "int" "str" = some false by decide +kernel)
  | str _ => exact (show kitB "str" "str" = some true by decide +kernel)
  | lst _ _ => exact (show kitB "list" "str" = some false by decide +kernel)
  | tup _ _ => exact (show kitB "tuple" "str" = some false by decide +kernel)
section
variable {P : Program} {w : World} {K : PySem.W.Frag} {mg : Str → Option Value} {base : Heap} {C : Addr}
theorem raise_name {sn : Nat} {H : Hp} {x : V} {d : PyData} {E : XK} {R : Hp → Addr → List (Str × V) → Prop} (hx : Dp K H x d) (hs : Sm sn d) (hE : NoNm K C H d E) {a : Addr} (na : H a = none)
    (hR : ∀ H' dd y, H dd = none → dd ≠ a → H' a = some (exo a C (some dd)) → H' dd = some (exd dd [("name", y)]) → E (.ref C) (some dd) (upd (del H' a) dd (.xd [("name", y)])) → R H' dd [("name", y)]) :
    spOneD K C "name" sn [.ref a, x] (upd H a (exo a C none)) (fun v H2 => v = .non ∧ ∃ dd fs, R H2 dd fs) (fun _ _ _ => False) := by
  refine ⟨a, x, d, rfl, dp_same (same_upd na) hx, hs, upd_same, fun H' dd y nd nda ha hd2 hb hy => ⟨rfl, dd, _, hR H' dd y ?_ nda ha hd2 ?_⟩⟩
  · rw [upd_ne nda] at nd
    exact nd
  · rw [upd_ne nda] at nd
    refine hE _ dd y (fun b o e => ?_) nd upd_same (dp_tr (fun b o so e => ?_) hy)
    · have nba : b ≠ a := ne_of_none e na
      rw [upd_ne (ne_of_none e nd), del_ne nba]
      refine hb _ _ nba ?_
      rw [upd_ne nba]
      exact e
    · obtain ⟨e1, e2⟩ := Nw.get e
      have nba : b ≠ a := fun z => by
        rw [z, upd_same] at e1
        cases e1
      have nbd : b ≠ dd := fun z => by
        rw [z, hd2] at e2
        cases e2
        exact exd_seq so
      rw [upd_ne nba] at e1
      exact Nw.mk e1 (by rw [upd_ne nbd, del_ne nba]; exact e2)
theorem ok_found_by {sn : Nat} (T : Gb mg) (N : OxD K mg C "KeyError" "NoName" "NoName.__init__" s_NoName N_NoName)
    (nl : ∀ f fd, L2.Fun K "__init__" "NoName.__init__" s_NoName f fd → FnOk P w K mg base CX0 (sn + 2) f fd N_NoName (spOneD K C "name" sn)) (D : Dd K mg "found_by" s_found_by P_found_by) : CalX P w K mg base (sn + 4) "found_by" (spFound K C sn) [] := by
  obtain ⟨f, fd, F, g, b⟩ := D.ex
  obtain ⟨fN, fdN, FF, bN, iN, tN⟩ := N.ex
  have FN := nl _ _ FF
  refine ⟨f, fd, _, [], F.okX sc_found_by (fun vs H Q E h => ?_) (fun cdv A' outer s H vs Q E hr h => ?_), g, F.kp, b, .nil⟩
  · obtain ⟨v, t, d, kvs, rfl, _⟩ := h
    rfl
  · obtain ⟨v, t, d, kvs, rfl, hd, hs, ht, hq⟩ := h
    refine ⟨_, (pss_cons (ps_if (PW.pt (pw_or (pt_not (pt_val (pe_callB call_isi (by rfl) T.isinstance (by decide +kernel) (pa_cons (pv 0) (pa_cons (pe_bltn (v := .ty "str") rfl T.str (by decide +kernel) rfl) pa_nil))))) (pw_or1 (pt_cmp (pc_dnotin (hu_of hr) (pv 0) (pv 1)) (by with_unfolding_all rfl)))))
          (pss_one (ps_raise rfl (takes_of rfl rfl rfl rfl) (pmk_ox N.ox iN tN FN (hr.mono (by omega)) bN pass0 (by rfl) N.mg (pa_cons (pv 0) pa_nil))))
          pss_nil)
        (pss_one (ps_ret (pe_dget (hu_of hr) (pv 1) (pv 0) (fun _ _ => rfl))))), ?_⟩
    refine ⟨_, rfl, v, .ty "str", .type (tyD d), .type "str", _, rfl, .ty "str", dp_tyD hd, kit_ty (kit_strD hd), _, rfl, ?_⟩
    have raised : NoNm K C H d E → ∀ a, H a = none → spOneD K C "name" sn [.ref a, v] (upd H a (exo a C none)) (fun v H2 => v = .non ∧ ∃ dd fs, H2 a = some (exo a C (some dd)) ∧ H2 dd = some (exd dd fs) ∧ H dd = none ∧ E (.ref C) (some dd) (upd (del H2 a) dd (.xd fs))) (fun _ _ _ => False) :=
      fun hb a na => raise_name hd hs hb na fun H' dd y nd nda ha hd2 hE' => ⟨ha, hd2, nd, hE'⟩
    rcases hq with ⟨z, u, rfl, hv, q⟩ | ⟨hno, hE⟩
    · cases hd
      refine iteF ?_
      have hg : DGet H t (.str z) (some u) := by
        have h := DGet.k (k := Sum.inr z) ht
        rw [hv] at h
        exact h
      refine ⟨_, rfl, _, rfl, t, some u, rfl, hg, _, rfl, ifF rfl ?_⟩
      exact ⟨_, rfl, _, rfl, t, u, rfl, hg, q⟩
    · by_cases hz : isS d = true
      · cases hd with
        | str z =>
          refine iteF ?_
          have hg : DGet H t (.str z) none := by
            have h := DGet.k (k := Sum.inr z) ht
            rw [hno z rfl] at h
            exact h
          refine ⟨_, rfl, _, rfl, t, none, rfl, hg, _, rfl, ifT rfl ?_⟩
          exact ⟨_, rfl, by show 1 ≤ 1000; decide, raised hE⟩
        | _ => cases hz
      · have hz' : isS d = false := by simpa using hz
        rw [hz']
        refine iteT ?_
        exact ⟨_, rfl, by show 1 ≤ 1000; decide, raised hE⟩
end
/-! ### a making's form, by its name -/
def tCallT (sp : Sp) (dvs : List V) (W : WX) (t : TA) : TE := fun σ H Q => t σ H fun vs H1 => sp (vs ++ dvs) H1 Q (WE W σ)
section
variable {X : Cx} {k j : Nat} {x : Str} {sp : Sp} {p pos : Pos} {e : Expr} {es : List Expr} {t : TA} {dvs : List V}
theorem pe_cT {W : WX} (c : CalX X.prog X.w X.K X.mg X.base k x sp dvs) (hr : Room j X.A) (hk : k ≤ j) (hg : Gl X x) (tkw : Takes X W) (ha : PA X (e :: es) t) (hdb : (x == ("__debug__" : Str)) = false := by decide)
    (he : starEach (e :: es) X.env = (false, eval e X.env) :: starEach es X.env := by rfl) (hpl : (backTo pos (starEach es X.env)).any (·.1) = false := by rfl) :
    PE X (.Call (.Name x p) (e :: es) [] pos) (tCallT sp dvs W t) := by
  obtain ⟨f, fd, ps, ds, F, hm, kp, b, d⟩ := c.ex
  refine ⟨fun pins s σ H Q I h => wpAny_Call_Name_kw (ld_glob I hg hm ?_ hdb)⟩
  refine PySem.W.callWith_K (h₀ := X.base) I.ok.mod.kin kp (thn (ha.run pos pins s σ H _ I h) fun us s1 ⟨vs, H1, I1, r, q⟩ => ⟨I1.kIn, ?_⟩) he hpl
  have r2 : Vals (vs ++ dvs) (us ++ ds) := Vals.append r d
  have hl : (us ++ ds).length = ps.length := by
    rw [← r2.length]
    exact F.len _ _ _ _ q
  refine wpAny_call (codeAny_mono (F.run X.A X.stack s1 H1 ⟨us, []⟩ (us ++ ds) (vs ++ dvs) Q (WE W σ) (hr.mono hk) I1.env0 (b s1 us I1.kIn hl) r2 q) fun res s' hq => ?_)
  cases res with
  | error er => exact passAt tkw σ pins H1 s1 er s' I1 hq
  | ok fl =>
    cases fl with
    | ret u => exact I1.after hq
    | next => exact hq.elim
    | brk => exact hq.elim
    | cont => exact hq.elim
end
abbrev s_GM : Stmt := (inClass (top 53) 6)
abbrev N_GM : List Str := ["self", "making"]
theorem sc_GM : FnScope N_GM N_GM (defScope s_GM) := ⟨rfl, rfl, rfl, by decide +kernel, rfl, by decide +kernel, by decide +kernel⟩
theorem lk6m (a b c d e f : V) : (g6 a b c d e f).lookup (("making_table" : String) : Str) = some c := by with_unfolding_all rfl
def spMakOf (K : PySem.W.Frag) (P : Program) (w : World) (G C : Addr) (sn : Nat) : Sp := fun vs H Q E => ∃ (Z : Hp) (x : Addr) (v : V) (d : PyData) (rs : List SRow) (ms : List MRow) (ru : List RRow) (roof : Nat), vs = [.ref x, v] ∧ GrOk K P w G Z H x rs ms ru roof ∧ (ms.map MRow.nm).Nodup ∧ Dp K H v d ∧ Sm sn d ∧
  ((∃ m ∈ ms, d = strD m.nm ∧ ∀ u, Dp K H u (mT m).r → Q u H) ∨ ((∀ m ∈ ms, d ≠ strD m.nm) ∧ NoNm K C H d E))
theorem Tab.noneS {K : PySem.W.Frag} {H : Hp} {z : Str} : ∀ {kvs : List (Key × V)} {ts : List T3}, Tab K H kvs ts → (∀ t ∈ ts, z ≠ SX.S t.k) → valV kvs (Sum.inr z) = Option.none
  | _, _, .nil, _ => rfl
  | _, _, .cons (b := t) a r, h => by
    rw [valV_neg (fun e => h t (List.mem_cons_self ..) (Sum.inr.inj (e.symm.trans a.1)))]
    exact Tab.noneS r fun t' ht => h t' (List.mem_cons_of_mem _ ht)
section
variable {P : Program} {w : World} {K : PySem.W.Frag} {mg : Str → Option Value} {base : Heap} {G C : Addr}
theorem ok_making_of {sn : Nat} {f : Addr} {fd : FuncData} (gc : GCls K G) (cfound_by : CalX P w K mg base (sn + 4) "found_by" (spFound K C sn) []) (F : L2.Fun K "making_of" "Grammar.making_of" s_GM f fd) : FnOk P w K mg base (L2.CX P w) (sn + 5) f fd N_GM (spMakOf K P w G C sn) := by
  refine F.okX sc_GM (fun vs H Q E h => ?_) (fun cdv A' outer s H vs Q E hr h => ?_)
  · obtain ⟨Z, x, v, d, rs, ms, ru, roof, rfl, _⟩ := h
    rfl
  · obtain ⟨Z, x, v, d, rs, ms, ru, roof, rfl, go, hnd, hd, hs, hq⟩ := h
    obtain ⟨dx, sd, md, rd, kd, rt, hx, _, ⟨kvs, hmd, htab⟩, _⟩ := go.ex
    refine ⟨_, pss_one (ps_ret (pe_cT cfound_by hr (by omega) (by rfl) (takes_of rfl rfl rfl rfl) (pa_cons (pv 1) (pa_cons (pe_fld (pv 0) (by rfl)) pa_nil)))), ?_⟩
    refine ⟨_, rfl, _, rfl, x, G, dx, _, .ref md, rfl, hx, gc.c, gc.making, lk6m _ _ _ _ _ _, v, md, d, kvs, rfl, hd, hs, hmd, ?_⟩
    rcases hq with ⟨m, hm, rfl, q⟩ | ⟨hno, hE⟩
    · obtain ⟨u, e, hu⟩ := htab.val (t := mT m) (by rw [mT_k]; exact hnd) (List.mem_map_of_mem hm)
      exact .inl ⟨SX.S m.nm, u, rfl, e, q u hu⟩
    · refine .inr ⟨fun z ez => htab.noneS fun t ht => ?_, hE⟩
      obtain ⟨m, hm, rfl⟩ := List.mem_map.mp ht
      exact fun e => hno m hm (by rw [ez, e]; rfl)
end
/-! ### a method that may raise, inside a try -/
def tMethT (C : Addr) (m : Str) (sp : Sp) (W : WX) (ta : TE) (t : TA) : TE := fun σ H Q => ta σ H fun x H1 => ∃ a dx fs, x = .ref a ∧ H1 a = some (.ins C dx fs) ∧ fs.lookup m = none ∧ t σ H1 fun vs H2 => sp (x :: vs) H2 Q (WE W σ)
theorem pe_methT {X : Cx} {k : Nat} {C f : Addr} {fd : FuncData} {ps : List Str} {m : Str} {sp : Sp} {W : WX} {o e : Expr} {es : List Expr} {ta : TE} {t : TA} {apos pos : Pos} {pl : Sem Bool} (he : PE X o ta) (c : Cls X.K C) (hm : Meth X.K C m f)
    (F : FnOk X.prog X.w X.K X.mg X.base (L2.CX X.prog X.w) k f fd ps sp) (b : Binds X.K fd ps []) (hr : Room k X.A) (tkw : Takes X W) (ha : PA X (e :: es) t)
    (hst : starEach (e :: es) X.env = (false, eval e X.env) :: starEach es X.env := by rfl) (hpl : (backTo pos (starEach es X.env)).any (·.1) = false := by rfl)
    (ht : eval (.Call (.Attribute o m apos) (e :: es) [] pos) X.env = (do
      let ov ← eval o X.env
      standAt apos.atName
      let (f, first) ← holding [ov] (getMethod ov m pl)
      callWith pos f first (backTo pos (starEach (e :: es) X.env)) (backToKw pos (keywordEach [] X.env))) := by rfl) :
    PE X (.Call (.Attribute o m apos) (e :: es) [] pos) (tMethT C m sp W ta t) := by
  refine ⟨fun pins s σ H Q I h => ?_⟩
  refine PySem.W.methodCall_KW (pl := pl) (thn (he.run pins s σ H _ I h) fun u s1 ⟨x, H1, I1, rx, a, dx, fs, ex, ea, l, q⟩ => ?_) ht
  subst ex
  obtain rfl : u = Value.ref a := rx
  refine getmeth_ok I1 ea c hm l ?_
  refine PySem.W.callWith_K (first := [.ref a]) (h₀ := X.base) I.ok.mod.kin hm.kp (thn (ha.run pos pins s1 σ H1 _ I1 q) fun us s2 ⟨vs, H2, I2, r, q2⟩ => ⟨I2.kIn, ?_⟩) hst hpl
  have r2 : Vals (V.ref a :: vs) (Value.ref a :: us ++ []) := by
    rw [List.append_nil]
    exact .cons rfl r
  have hl : (Value.ref a :: us ++ []).length = ps.length := by
    rw [← r2.length]
    exact F.len _ _ _ _ q2
  refine wpAny_call (codeAny_mono (F.run X.A X.stack s2 H2 ⟨Value.ref a :: us, []⟩ (Value.ref a :: us ++ []) (V.ref a :: vs) Q (WE W σ) hr I2.env0 (b s2 (Value.ref a :: us) I2.kIn hl) r2 q2) fun res s' hq => ?_)
  cases res with
  | error er => exact passAt tkw σ pins H2 s2 er s' I2 hq
  | ok fl =>
    cases fl with
    | ret u => exact I2.after hq
    | next => exact hq.elim
    | brk => exact hq.elim
    | cont => exact hq.elim
theorem takes_no {X : Cx} : Takes X (fun _ _ _ _ => False) := fun _ _ ⟨_, _, _, _, _, _, _, _, _, _, _, _, _, _, _, _, h⟩ => h.elim
abbrev s_form_of : Stmt := top 55
abbrev N_form_of : List Str := ["grammar", "making"]
abbrev P_form_of : List Str := ["grammar", "making"]
theorem sc_form_of : FnScope N_form_of P_form_of (defScope s_form_of) := ⟨rfl, rfl, rfl, by decide +kernel, rfl, by decide +kernel, by decide +kernel⟩
/-- the name of the error, and that its own except takes it -/
structure NmE (K : PySem.W.Frag) (mg : Str → Option Value) (C : Addr) : Prop where
  nl : mg "NoName" = some (.ref C)
  ex : PySem.W.exmOne K (.ref C) (.ref C) = some true
/-- the method, in the written part -/
structure GMeth (P : Program) (w : World) (K : PySem.W.Frag) (mg : Str → Option Value) (base : Heap) (G C : Addr) (sn : Nat) : Prop where
  ex : ∃ (f : Addr) (fd : FuncData), FnOk P w K mg base (L2.CX P w) (sn + 5) f fd N_GM (spMakOf K P w G C sn) ∧ Meth K G "making_of" f ∧ Binds K fd N_GM []
theorem lk6n (a b c d e f : V) : (g6 a b c d e f).lookup (("making_of" : String) : Str) = none := by with_unfolding_all rfl
def spFormOf (K : PySem.W.Frag) (P : Program) (w : World) (G : Addr) (sn : Nat) : Sp := fun vs H Q _ => ∃ (Z : Hp) (x : Addr) (v : V) (d : PyData) (rs : List SRow) (ms : List MRow) (ru : List RRow) (roof : Nat), vs = [.ref x, v] ∧ GrOk K P w G Z H x rs ms ru roof ∧ (ms.map MRow.nm).Nodup ∧ Dp K H v d ∧ Sm sn d ∧
  (∀ m ∈ ms, d = strD m.nm → ∀ u, Dp K H u (mT m).r → Q u H) ∧ ((∀ m ∈ ms, d ≠ strD m.nm) → ∀ H', Same H H' → Q .non H')
section
variable {P : Program} {w : World} {K : PySem.W.Frag} {mg : Str → Option Value} {base : Heap} {G C : Addr}
theorem ok_form_of {sn : Nat} (gc : GCls K G) (N : NmE K mg C) (M : GMeth P w K mg base G C sn) (D : Dd K mg "form_of" s_form_of P_form_of) : C8.Cal P w K mg base (sn + 6) "form_of" (spFormOf K P w G sn) [] := by
  obtain ⟨fM, fdM, FM, mM, bM⟩ := M.ex
  refine D.cal sc_form_of (fun vs H Q E h => ?_) (fun f cdv A outer s H vs Q E hr h => ?_)
  · obtain ⟨Z, x, v, d, rs, ms, ru, roof, rfl, _⟩ := h
    rfl
  · obtain ⟨Z, x, v, d, rs, ms, ru, roof, rfl, go, hnd, hd, hs, hy, hn⟩ := h
    obtain ⟨dx, sd, md, rd, kd, rt, hx, _⟩ := go.ex
    refine ⟨_, pss_one (ps_try_only rfl rfl ⟨by rfl, by decide, .inl N.nl⟩ takes_no
      (fun W pn xe tk hp => pss_one (ps_ret (pe_methT (pv 0) gc.c mM FM bM hr tk (pa_cons (pv 1) pa_nil))))
      (fun a oe cls d pn hz hd => pss_one (ps_ret pe_non))), ?_⟩
    refine ⟨_, rfl, x, dx, _, rfl, hx, lk6n _ _ _ _ _ _, _, rfl, Z, x, v, d, rs, ms, ru, roof, rfl, go, hnd, hd, hs, ?_⟩
    by_cases hin : ∃ m ∈ ms, d = strD m.nm
    · obtain ⟨m, hm, e⟩ := hin
      exact .inl ⟨m, hm, e, fun u hu => hy m hm e u hu⟩
    · have hno : ∀ m ∈ ms, d ≠ strD m.nm := fun m hm e => hin ⟨m, hm, e⟩
      refine .inr ⟨hno, fun H' dd y s1 _ _ _ => ?_⟩
      exact ⟨true, N.ex, fun _ a na => hn hno _ s1, fun z => nomatch z⟩
end
theorem allTrue (n : Nat) : (List.replicate n true).all id = true := by
  rw [List.all_eq_true]
  intro x hx
  rw [List.eq_of_mem_replicate hx]
  rfl
abbrev s__law_same : Stmt := top 69
abbrev N__law_same : List Str := ["_law_found", "_law_due", "_law_one", "_law_other"]
abbrev P__law_same : List Str := ["_law_found", "_law_due"]
theorem sc__law_same : FnScope N__law_same P__law_same (defScope s__law_same) := ⟨rfl, rfl, rfl, by decide +kernel, rfl, by decide +kernel, by decide +kernel⟩
structure Sa (mg : Str → Option Value) : Prop where
  isinstance : mg "isinstance" = none
  list : mg "list" = none
  tuple : mg "tuple" = none
  bool : mg "bool" = none
  str : mg "str" = none
  int : mg "int" = none
  len : mg "len" = none
  zip : mg "zip" = none
  all : mg "all" = none
  range : mg "range" = none
theorem walk_zipT {K : PySem.W.Frag} {a b : Addr} {xs ys : List V} {n : Nat} (hn : n = min xs.length ys.length) : Walk (RZ.ItzT K a b) n (fun H => SqT K H a xs ∧ SqT K H b ys) (YPair (fun i => xs[i]?) (fun i => ys[i]?)) := by
  subst hn
  refine ⟨fun i _ hi q => ?_, fun _ q => ⟨xs, ys, q.1, q.2, by omega⟩, fun i H v H' _ q y => ?_⟩
  · have h1 : i < xs.length := by omega
    have h2 : i < ys.length := by omega
    exact ⟨xs, ys, xs[i], ys[i], q.1, q.2, by simp [h1], by simp [h2]⟩
  · obtain ⟨T, x, z, h1, h2, h3, h4, h5⟩ := y
    exact ⟨T, x, z, h1, h2, h3, h4 xs q.1, h5 ys q.2⟩
def spSame (K : PySem.W.Frag) (n : Nat) : Sp := fun vs H Q _ => ∃ (x y : V) (d : PyData), vs = [x, y] ∧ Dp K H x d ∧ Dp K H y d ∧ Sm n d ∧ ∀ H', Same H H' → Q (.bl true) H'
section
variable {P : Program} {w : World} {K : PySem.W.Frag} {mg : Str → Option Value} {base : Heap}
theorem same_non (T : Sa mg) (f : Addr) (cdv : Value) (A : Around) (outer : List Env) (s : Shared) (H : Hp) (Q : VK) (E : XK) (q : ∀ H', Same H H' → Q (.bl true) H') :
    ∃ t, PSs (cxOf CX0 P w K mg base N__law_same "_law_same" (defScope s__law_same) f cdv A outer s H E).nox (defBody s__law_same) t ∧ t { nx := fun _ H' => Q .non H', rt := Q } (start N__law_same [.non, .non]) H := by
  refine ⟨_, (pss_cons (ps_if (pt_val (pe_callB call_isiT (by rfl) T.isinstance (by decide +kernel) (pa_cons (pv 1) (pa_cons (pe_tup (pa_cons (pe_bltn (v := .ty "list") rfl T.list (by decide +kernel) rfl) (pa_cons (pe_bltn (v := .ty "tuple") rfl T.tuple (by decide +kernel) rfl) pa_nil))) pa_nil))))
      (pss_cons ps_never (pss_one ps_never)) pss_nil)
    (pss_cons (ps_if (PW.pt (pw_or (pt_cmpR op_isN (pv 1) pe_non (nomark _)) (pw_or1 (pt_cmpR op_isN (pv 0) pe_non (nomark _)))))
      (pss_one (ps_ret (pe_and (pe_cmpR op_isN (pv 1) pe_non (nomark _)) (pe_one (pe_cmpR op_isN (pv 0) pe_non (nomark _))))))
      pss_nil) (pss_cons ps_never (pss_one ps_never)))), ?_⟩
  refine ⟨_, rfl, by show 2 ≤ sizeLine; decide, fun tp nt => ?_⟩
  refine ⟨.non, tp, _, .type "NoneType", [.type "list", .type "tuple"], false, rfl, upd_same, .cons (.ty "list") (.cons (.ty "tuple") .nil), .base .non, kitLT (by decide +kernel) (fun _ => by decide +kernel), _, rfl, iteF ?_⟩
  refine ⟨_, rfl, rfl, _, rfl, ifT (decide_eq_true rfl) (iteT ?_)⟩
  refine ⟨_, rfl, rfl, _, rfl, ifT (decide_eq_true rfl) ?_⟩
  refine ⟨_, rfl, rfl, ?_⟩
  rw [decide_eq_true rfl]
  exact q _ (same_upd nt)
theorem same_atom (T : Sa mg) (f : Addr) (cdv : Value) (A : Around) (outer : List Env) (s : Shared) (H : Hp) (Q : VK) (E : XK) {x : V} {t : String} (ty : ∀ H', TyX K H' x (.type t)) (nx : x ≠ .non) (k1 : kitB t "list" = some false) (k2 : kitB t "tuple" = some false)
    (kk : (kitB t "bool" = some true) ∨ (kitB t "bool" = some false ∧ kitB t "str" = some true) ∨ (kitB t "bool" = some false ∧ kitB t "str" = some false ∧ kitB t "int" = some true)) (sc : scal x x = true) (q : ∀ H', Same H H' → Q (.bl true) H') :
    ∃ t, PSs (cxOf CX0 P w K mg base N__law_same "_law_same" (defScope s__law_same) f cdv A outer s H E).nox (defBody s__law_same) t ∧ t { nx := fun _ H' => Q .non H', rt := Q } (start N__law_same [x, x]) H := by
  refine ⟨_, (pss_cons (ps_if (pt_val (pe_callB call_isiT (by rfl) T.isinstance (by decide +kernel) (pa_cons (pv 1) (pa_cons (pe_tup (pa_cons (pe_bltn (v := .ty "list") rfl T.list (by decide +kernel) rfl) (pa_cons (pe_bltn (v := .ty "tuple") rfl T.tuple (by decide +kernel) rfl) pa_nil))) pa_nil))))
      (pss_cons ps_never (pss_one ps_never)) pss_nil)
    (pss_cons (ps_if (PW.pt (pw_or (pt_cmpR op_isN (pv 1) pe_non (nomark _)) (pw_or1 (pt_cmpR op_isN (pv 0) pe_non (nomark _)))))
      (pss_one ps_never) pss_nil)
    (pss_cons (ps_if (PW.pt (pw_or (pt_val (pe_callB call_isi (by rfl) T.isinstance (by decide +kernel) (pa_cons (pv 1) (pa_cons (pe_bltn (v := .ty "bool") rfl T.bool (by decide +kernel) rfl) pa_nil)))) (pw_or1 (pt_val (pe_callB call_isi (by rfl) T.isinstance (by decide +kernel) (pa_cons (pv 1) (pa_cons (pe_bltn (v := .ty "str") rfl T.str (by decide +kernel) rfl) pa_nil)))))))
      (pss_one (ps_ret (pe_and (pe_cmpR op_eq (pe_callB call_isi (by rfl) T.isinstance (by decide +kernel) (pa_cons (pv 0) (pa_cons (pe_bltn (v := .ty "bool") rfl T.bool (by decide +kernel) rfl) pa_nil))) (pe_callB call_isi (by rfl) T.isinstance (by decide +kernel) (pa_cons (pv 1) (pa_cons (pe_bltn (v := .ty "bool") rfl T.bool (by decide +kernel) rfl) pa_nil))) (nomark _)) (pe_one (pe_cmpR op_eq (pv 0) (pv 1) (nomark _))))))
      pss_nil)
    (pss_one (ps_ret (pe_and (pe_callB call_isi (by rfl) T.isinstance (by decide +kernel) (pa_cons (pv 0) (pa_cons (pe_bltn (v := .ty "int") rfl T.int (by decide +kernel) rfl) pa_nil))) (pe_and (pe_not (pe_callB call_isi (by rfl) T.isinstance (by decide +kernel) (pa_cons (pv 0) (pa_cons (pe_bltn (v := .ty "bool") rfl T.bool (by decide +kernel) rfl) pa_nil)))) (pe_one (pe_cmpR op_eq (pv 0) (pv 1) (nomark _)))))))))), ?_⟩
  refine ⟨_, rfl, by show 2 ≤ sizeLine; decide, fun tp nt => ?_⟩
  refine ⟨x, tp, _, .type t, [.type "list", .type "tuple"], false, rfl, upd_same, .cons (.ty "list") (.cons (.ty "tuple") .nil), ty _, kitLT k1 (fun _ => k2), _, rfl, iteF ?_⟩
  refine ⟨_, rfl, rfl, _, rfl, ifF (decide_eq_false nx) ?_⟩
  refine ⟨_, rfl, rfl, _, rfl, ifF (decide_eq_false nx) ?_⟩
  rcases kk with kb | ⟨kb, ks⟩ | ⟨kb, ks, ki⟩
  · refine ⟨_, rfl, x, .ty "bool", .type t, .type "bool", true, rfl, .ty "bool", ty _, kit_ty kb, _, rfl, iteT (iteT ?_)⟩
    refine ⟨_, rfl, x, .ty "bool", .type t, .type "bool", true, rfl, .ty "bool", ty _, kit_ty kb, ?_⟩
    refine ⟨_, rfl, x, .ty "bool", .type t, .type "bool", true, rfl, .ty "bool", ty _, kit_ty kb, ?_⟩
    refine ⟨rfl, _, rfl, ifT (decide_eq_true rfl) ?_⟩
    refine ⟨_, rfl, _, rfl, sc, ?_⟩
    rw [decide_eq_true rfl]
    exact q _ (same_upd nt)
  · refine ⟨_, rfl, x, .ty "bool", .type t, .type "bool", false, rfl, .ty "bool", ty _, kit_ty kb, _, rfl, iteF ?_⟩
    refine ⟨_, rfl, x, .ty "str", .type t, .type "str", true, rfl, .ty "str", ty _, kit_ty ks, _, rfl, iteT ?_⟩
    refine ⟨_, rfl, x, .ty "bool", .type t, .type "bool", false, rfl, .ty "bool", ty _, kit_ty kb, ?_⟩
    refine ⟨_, rfl, x, .ty "bool", .type t, .type "bool", false, rfl, .ty "bool", ty _, kit_ty kb, ?_⟩
    refine ⟨rfl, _, rfl, ifT (decide_eq_true rfl) ?_⟩
    refine ⟨_, rfl, _, rfl, sc, ?_⟩
    rw [decide_eq_true rfl]
    exact q _ (same_upd nt)
  · refine ⟨_, rfl, x, .ty "bool", .type t, .type "bool", false, rfl, .ty "bool", ty _, kit_ty kb, _, rfl, iteF ?_⟩
    refine ⟨_, rfl, x, .ty "str", .type t, .type "str", false, rfl, .ty "str", ty _, kit_ty ks, _, rfl, iteF ?_⟩
    refine ⟨_, rfl, x, .ty "int", .type t, .type "int", true, rfl, .ty "int", ty _, kit_ty ki, _, rfl, iteT ?_⟩
    refine ⟨_, rfl, x, .ty "bool", .type t, .type "bool", false, rfl, .ty "bool", ty _, kit_ty kb, _, rfl, _, rfl, iteT ?_⟩
    refine ⟨_, rfl, _, rfl, sc, ?_⟩
    rw [decide_eq_true rfl]
    exact q _ (same_upd nt)
theorem ok_same (T : Sa mg) (D : Dd K mg "_law_same" s__law_same P__law_same) : ∀ n, C8.Cal P w K mg base (n + 1) "_law_same" (spSame K n) [] := by
  intro n
  induction n with
  | zero =>
    refine D.cal sc__law_same (fun vs H Q E h => ?_) (fun f cdv A outer s H vs Q E hr h => ?_)
    · obtain ⟨x, y, d, rfl, _⟩ := h
      rfl
    · obtain ⟨x, y, d, rfl, hx, hy, hs, q⟩ := h
      cases hs with
      | non => cases hx; cases hy; exact same_non T f cdv A outer s H Q E q
      | bl _ b => cases hx; cases hy; exact same_atom T f cdv A outer s H Q E (fun _ => .base (.bl b)) (fun z => nomatch z) (by decide +kernel) (by decide +kernel) (.inl (by decide +kernel)) rfl q
      | int _ i => cases hx; cases hy; exact same_atom T f cdv A outer s H Q E (fun _ => .base (.int i)) (fun z => nomatch z) (by decide +kernel) (by decide +kernel) (.inr (.inr ⟨by decide +kernel, by decide +kernel, by decide +kernel⟩)) rfl q
      | str _ z => cases hx; cases hy; exact same_atom T f cdv A outer s H Q E (fun _ => .base (.str z)) (fun z => nomatch z) (by decide +kernel) (by decide +kernel) (.inr (.inl ⟨by decide +kernel, by decide +kernel⟩)) rfl q
  | succ n c_law_same =>
    refine D.cal sc__law_same (fun vs H Q E h => ?_) (fun f cdv A outer s H vs Q E hr h => ?_)
    · obtain ⟨x, y, d, rfl, _⟩ := h
      rfl
    · obtain ⟨x, y, d, rfl, hx, hy, hs, q⟩ := h
      cases hs with
      | non => cases hx; cases hy; exact same_non T f cdv A outer s H Q E q
      | bl _ b => cases hx; cases hy; exact same_atom T f cdv A outer s H Q E (fun _ => .base (.bl b)) (fun z => nomatch z) (by decide +kernel) (by decide +kernel) (.inl (by decide +kernel)) rfl q
      | int _ i => cases hx; cases hy; exact same_atom T f cdv A outer s H Q E (fun _ => .base (.int i)) (fun z => nomatch z) (by decide +kernel) (by decide +kernel) (.inr (.inr ⟨by decide +kernel, by decide +kernel, by decide +kernel⟩)) rfl q
      | str _ z => cases hx; cases hy; exact same_atom T f cdv A outer s H Q E (fun _ => .base (.str z)) (fun z => nomatch z) (by decide +kernel) (by decide +kernel) (.inr (.inl ⟨by decide +kernel, by decide +kernel⟩)) rfl q
      | lst _ hlen hall =>
        rename_i ds
        cases hx with
        | lst hS hd =>
          rename_i a xs
          cases hy with
          | lst hS2 hd2 =>
            rename_i b ys
            refine ⟨_, (pss_cons (ps_if (pt_val (pe_callB call_isiT (by rfl) T.isinstance (by decide +kernel) (pa_cons (pv 1) (pa_cons (pe_tup (pa_cons (pe_bltn (v := .ty "list") rfl T.list (by decide +kernel) rfl) (pa_cons (pe_bltn (v := .ty "tuple") rfl T.tuple (by decide +kernel) rfl) pa_nil))) pa_nil))))
      (pss_cons (ps_if (PW.pt (pw_or (pt_cmpR op_ne (pe_callB call_isi (by rfl) T.isinstance (by decide +kernel) (pa_cons (pv 0) (pa_cons (pe_bltn (v := .ty "list") rfl T.list (by decide +kernel) rfl) pa_nil))) (pe_callB call_isi (by rfl) T.isinstance (by decide +kernel) (pa_cons (pv 1) (pa_cons (pe_bltn (v := .ty "list") rfl T.list (by decide +kernel) rfl) pa_nil))) (nomark _)) (pw_or1 (pt_cmpR op_ne (pe_callB call_isi (by rfl) T.isinstance (by decide +kernel) (pa_cons (pv 0) (pa_cons (pe_bltn (v := .ty "tuple") rfl T.tuple (by decide +kernel) rfl) pa_nil))) (pe_callB call_isi (by rfl) T.isinstance (by decide +kernel) (pa_cons (pv 1) (pa_cons (pe_bltn (v := .ty "tuple") rfl T.tuple (by decide +kernel) rfl) pa_nil))) (nomark _)))))
      (pss_one ps_never)
      pss_nil)
    (pss_one (ps_ret (pe_and (pe_cmpR op_eq (pe_callB call_len_seq (by rfl) T.len PySem.boot_len (pa_cons (pv 0) pa_nil)) (pe_callB call_len_seq (by rfl) T.len PySem.boot_len (pa_cons (pv 1) pa_nil)) (nomark _)) (pe_one (pe_callB (cr_all rfl) (by rfl) T.all (by decide +kernel) (pa_cons (pe_lc (g := gTup K 2 (gCons (gName 2) (gCons (gName 3) gNil))) (own := [("_law_one", 2), ("_law_other", 3)]) (by exact rfl) sc__law_same.nd (RZ.pi_zipA (by rfl) T.zip (pa_cons (pv 0) (pa_cons (pv 1) pa_nil))) (blkOk_by (own := [("_law_one", 2), ("_law_other", 3)]) (N := N__law_same) (sc := defScope s__law_same) (by decide +kernel)) (fun _ _ _ _ _ => (pg_tup (n := 2) rfl (pgs_cons (pg_name (i := 2) sc__law_same.nd rfl (Or.inl rfl) (Or.inr rfl)) (pgs_cons (pg_name (i := 3) sc__law_same.nd rfl (Or.inl rfl) (Or.inr rfl)) pgs_nil)))) (fun _ _ _ _ _ => pts_nil) (fun _ _ _ _ _ => (C8.pe_c c_law_same hr (by omega) (by rfl) (pa_cons (pv 2) (pa_cons (pv 3) pa_nil))))) pa_nil)))))))
      pss_nil)
    (pss_cons ps_never (pss_cons ps_never (pss_one ps_never)))), ?_⟩
            have lx := dpAll_len hd
            have ly := dpAll_len hd2
            refine ⟨_, rfl, by show 2 ≤ sizeLine; decide, fun tp nt => ?_⟩
            have s1 := same_upd (o := .tup [.ty "list", .ty "tuple"]) nt
            have h1 := Same.seqL s1 hS
            have h2 := Same.seqL s1 hS2
            refine ⟨.ref b, tp, _, .type "list", [.type "list", .type "tuple"], true, rfl, upd_same, .cons (.ty "list") (.cons (.ty "tuple") .nil), tyL h2, kitLT (by decide +kernel) (fun e => nomatch e), _, rfl, iteT ?_⟩
            refine ⟨_, rfl, .ref a, .ty "list", .type "list", .type "list", true, rfl, .ty "list", tyL h1, kit_ty (by decide +kernel), ?_⟩
            refine ⟨_, rfl, .ref b, .ty "list", .type "list", .type "list", true, rfl, .ty "list", tyL h2, kit_ty (by decide +kernel), rfl, _, rfl, iteF ?_⟩
            refine ⟨_, rfl, .ref a, .ty "tuple", .type "list", .type "tuple", false, rfl, .ty "tuple", tyL h1, kit_ty (by decide +kernel), ?_⟩
            refine ⟨_, rfl, .ref b, .ty "tuple", .type "list", .type "tuple", false, rfl, .ty "tuple", tyL h2, kit_ty (by decide +kernel), rfl, _, rfl, iteF ?_⟩
            refine ⟨_, rfl, a, xs, rfl, .inl h1, ?_⟩
            refine ⟨_, rfl, b, ys, rfl, .inl h2, rfl, _, rfl, ifT (by rw [lx, ly]; exact decide_eq_true rfl) ?_⟩
            refine ⟨_, rfl, _, rfl, a, b, xs, ys, rfl, .inl ⟨h1, h2, fun D nD => ?_⟩⟩
            refine lc_it (walk_zip (K := K) (a := a) (b := b) (xs := xs) (ys := ys) rfl) (fun j H' => Same H H' ∧ H' D = some (.lst ((List.replicate j true).map V.bl)))
              ⟨Same.trans s1 (same_upd nD), upd_same⟩ (fun j H' _ h => ⟨Same.seqL h.1 hS, Same.seqL h.1 hS2⟩) ?_ ?_
            · rintro j v H3 H4 hj ⟨sm, hD⟩ ⟨U, x, y, rfl, nU, rfl, ex, ey⟩
              obtain ⟨d1, e1, g1⟩ := dpAll_at hd ex
              obtain ⟨d2, e2, g2⟩ := dpAll_at hd2 ey
              rw [e1] at e2
              cases e2
              have sU : Same H3 (upd H3 U (.tup [x, y])) := same_upd nU
              have s5 := sm.trans sU
              refine ⟨U, _, rfl, SqT.of upd_same, rfl, _, _, rfl, _, _, rfl, rfl, ?_⟩
              refine ⟨rfl, yesT ?_⟩
              refine ⟨_, rfl, _, rfl, x, y, d1, rfl, dp_same s5 g1, dp_same s5 g2, hall d1 (List.mem_of_getElem? e1), fun H6 s6 => ?_⟩
              refine ⟨_, s6 _ _ (sU _ _ hD), by rw [List.length_map, List.length_replicate]; exact small1000 (by omega), Same.at_ (s5.trans s6) (s1.free nD), ?_⟩
              rw [upd_same, List.replicate_succ', List.map_append]
              rfl
            · rintro H6 ⟨s6, hD⟩
              refine ⟨D, _, rfl, SqL.of hD, ?_⟩
              rw [allTrue]
              exact q H6 s6
      | tup _ hlen hall =>
        rename_i ds
        cases hx with
        | tup hS hd =>
          rename_i a xs
          cases hy with
          | tup hS2 hd2 =>
            rename_i b ys
            refine ⟨_, (pss_cons (ps_if (pt_val (pe_callB call_isiT (by rfl) T.isinstance (by decide +kernel) (pa_cons (pv 1) (pa_cons (pe_tup (pa_cons (pe_bltn (v := .ty "list") rfl T.list (by decide +kernel) rfl) (pa_cons (pe_bltn (v := .ty "tuple") rfl T.tuple (by decide +kernel) rfl) pa_nil))) pa_nil))))
      (pss_cons (ps_if (PW.pt (pw_or (pt_cmpR op_ne (pe_callB call_isi (by rfl) T.isinstance (by decide +kernel) (pa_cons (pv 0) (pa_cons (pe_bltn (v := .ty "list") rfl T.list (by decide +kernel) rfl) pa_nil))) (pe_callB call_isi (by rfl) T.isinstance (by decide +kernel) (pa_cons (pv 1) (pa_cons (pe_bltn (v := .ty "list") rfl T.list (by decide +kernel) rfl) pa_nil))) (nomark _)) (pw_or1 (pt_cmpR op_ne (pe_callB call_isi (by rfl) T.isinstance (by decide +kernel) (pa_cons (pv 0) (pa_cons (pe_bltn (v := .ty "tuple") rfl T.tuple (by decide +kernel) rfl) pa_nil))) (pe_callB call_isi (by rfl) T.isinstance (by decide +kernel) (pa_cons (pv 1) (pa_cons (pe_bltn (v := .ty "tuple") rfl T.tuple (by decide +kernel) rfl) pa_nil))) (nomark _)))))
      (pss_one ps_never)
      pss_nil)
    (pss_one (ps_ret (pe_and (pe_cmpR op_eq (pe_callB call_len_seq (by rfl) T.len PySem.boot_len (pa_cons (pv 0) pa_nil)) (pe_callB call_len_seq (by rfl) T.len PySem.boot_len (pa_cons (pv 1) pa_nil)) (nomark _)) (pe_one (pe_callB (cr_all rfl) (by rfl) T.all (by decide +kernel) (pa_cons (pe_lc (g := gTup K 2 (gCons (gName 2) (gCons (gName 3) gNil))) (own := [("_law_one", 2), ("_law_other", 3)]) (by exact rfl) sc__law_same.nd (RZ.pi_zipA (by rfl) T.zip (pa_cons (pv 0) (pa_cons (pv 1) pa_nil))) (blkOk_by (own := [("_law_one", 2), ("_law_other", 3)]) (N := N__law_same) (sc := defScope s__law_same) (by decide +kernel)) (fun _ _ _ _ _ => (pg_tup (n := 2) rfl (pgs_cons (pg_name (i := 2) sc__law_same.nd rfl (Or.inl rfl) (Or.inr rfl)) (pgs_cons (pg_name (i := 3) sc__law_same.nd rfl (Or.inl rfl) (Or.inr rfl)) pgs_nil)))) (fun _ _ _ _ _ => pts_nil) (fun _ _ _ _ _ => (C8.pe_c c_law_same hr (by omega) (by rfl) (pa_cons (pv 2) (pa_cons (pv 3) pa_nil))))) pa_nil)))))))
      pss_nil)
    (pss_cons ps_never (pss_cons ps_never (pss_one ps_never)))), ?_⟩
            have lx := dpAll_len hd
            have ly := dpAll_len hd2
            refine ⟨_, rfl, by show 2 ≤ sizeLine; decide, fun tp nt => ?_⟩
            have s1 := same_upd (o := .tup [.ty "list", .ty "tuple"]) nt
            have h1 := Same.seqT s1 hS
            have h2 := Same.seqT s1 hS2
            refine ⟨.ref b, tp, _, .type "tuple", [.type "list", .type "tuple"], true, rfl, upd_same, .cons (.ty "list") (.cons (.ty "tuple") .nil), tyT h2, kitLT2, _, rfl, iteT ?_⟩
            refine ⟨_, rfl, .ref a, .ty "list", .type "tuple", .type "list", false, rfl, .ty "list", tyT h1, kit_ty (by decide +kernel), ?_⟩
            refine ⟨_, rfl, .ref b, .ty "list", .type "tuple", .type "list", false, rfl, .ty "list", tyT h2, kit_ty (by decide +kernel), rfl, _, rfl, iteF ?_⟩
            refine ⟨_, rfl, .ref a, .ty "tuple", .type "tuple", .type "tuple", true, rfl, .ty "tuple", tyT h1, kit_ty (by decide +kernel), ?_⟩
            refine ⟨_, rfl, .ref b, .ty "tuple", .type "tuple", .type "tuple", true, rfl, .ty "tuple", tyT h2, kit_ty (by decide +kernel), rfl, _, rfl, iteF ?_⟩
            refine ⟨_, rfl, a, xs, rfl, .inr h1, ?_⟩
            refine ⟨_, rfl, b, ys, rfl, .inr h2, rfl, _, rfl, ifT (by rw [lx, ly]; exact decide_eq_true rfl) ?_⟩
            refine ⟨_, rfl, _, rfl, a, b, xs, ys, rfl, .inr ⟨h1, h2, fun D nD => ?_⟩⟩
            refine lc_it (walk_zipT (K := K) (a := a) (b := b) (xs := xs) (ys := ys) rfl) (fun j H' => Same H H' ∧ H' D = some (.lst ((List.replicate j true).map V.bl)))
              ⟨Same.trans s1 (same_upd nD), upd_same⟩ (fun j H' _ h => ⟨Same.seqT h.1 hS, Same.seqT h.1 hS2⟩) ?_ ?_
            · rintro j v H3 H4 hj ⟨sm, hD⟩ ⟨U, x, y, rfl, nU, rfl, ex, ey⟩
              obtain ⟨d1, e1, g1⟩ := dpAll_at hd ex
              obtain ⟨d2, e2, g2⟩ := dpAll_at hd2 ey
              rw [e1] at e2
              cases e2
              have sU : Same H3 (upd H3 U (.tup [x, y])) := same_upd nU
              have s5 := sm.trans sU
              refine ⟨U, _, rfl, SqT.of upd_same, rfl, _, _, rfl, _, _, rfl, rfl, ?_⟩
              refine ⟨rfl, yesT ?_⟩
              refine ⟨_, rfl, _, rfl, x, y, d1, rfl, dp_same s5 g1, dp_same s5 g2, hall d1 (List.mem_of_getElem? e1), fun H6 s6 => ?_⟩
              refine ⟨_, s6 _ _ (sU _ _ hD), by rw [List.length_map, List.length_replicate]; exact small1000 (by omega), Same.at_ (s5.trans s6) (s1.free nD), ?_⟩
              rw [upd_same, List.replicate_succ', List.map_append]
              rfl
            · rintro H6 ⟨s6, hD⟩
              refine ⟨D, _, rfl, SqL.of hD, ?_⟩
              rw [allTrue]
              exact q H6 s6
end
/-! ### texts of data, how long at most -/
theorem textFrom_le : ∀ (ts : List Str) (k : Nat) (acc : Str), (textFrom k acc ts).length ≤ acc.length + piled ts
  | [], k, acc => by
    rw [piled_nil]
    exact Nat.le_refl _
  | t :: r, k, acc => by
    have ih := textFrom_le r (k + 1) (acc ++ (if k > 0 then ", " else "" : String) ++ t)
    have e2 : ((", " : String) : Str).length = 2 := rfl
    have e0 : (("" : String) : Str).length = 0 := rfl
    have e : (acc ++ (if k > 0 then ", " else "" : String) ++ t).length ≤ acc.length + 2 + t.length := by
      rw [strLen_append, strLen_append]
      by_cases h : k > 0
      · rw [if_pos h, e2]
        exact Nat.le_refl _
      · rw [if_neg h, e0]
        omega
    rw [piled_cons]
    exact Nat.le_trans ih (by omega)
theorem listText_le (ts : List Str) : (listText ts).length ≤ piled ts + 2 := by
  unfold listText
  rw [strLen_append]
  have h := textFrom_le ts 0 "["
  have e1 : (("[" : String) : Str).length = 1 := rfl
  have e2 : (("]" : String) : Str).length = 1 := rfl
  rw [e1] at h
  rw [e2]
  omega
theorem tupleText_le (ts : List Str) : (tupleText ts).length ≤ piled ts + 3 := by
  unfold tupleText
  rw [strLen_append, strLen_append]
  have e1 : (("(" : String) : Str).length = 1 := rfl
  have e2 : ((if ts.length == 1 then ",)" else ")" : String) : Str).length ≤ 2 := by
    by_cases h : (ts.length == 1) = true
    · rw [if_pos h]
      decide
    · rw [if_neg h]
      decide
  rw [e1]
  cases ts with
  | nil =>
    have e3 : (Str.join ", " []).length = 0 := rfl
    rw [e3]
    omega
  | cons t r =>
    have := join_length_add (t :: r) (by simp)
    omega
/-! ### what is small at a depth is so at a greater one -/
theorem Sm.succ {n : Nat} {d : PyData} (h : Sm n d) : Sm (n + 1) d := by
  induction h with
  | non n => exact .non _
  | bl n b => exact .bl _ b
  | int n i => exact .int _ i
  | str n z => exact .str _ z
  | lst n h _ ih => exact .lst _ h ih
  | tup n h _ ih => exact .tup _ h ih
theorem Sm.up {m n : Nat} {d : PyData} (h : Sm m d) (e : m ≤ n) : Sm n d := by
  induction e with
  | refl => exact h
  | step _ ih => exact ih.succ
/-! ### what is a tree, by the program and by the law -/
abbrev s_is_tree : Stmt := top 56
abbrev N_is_tree : List Str := ["grammar", "thing", "sort", "making", "own", "parts", "form", "part", "due"]
abbrev P_is_tree : List Str := ["grammar", "thing", "sort"]
theorem sc_is_tree : FnScope N_is_tree P_is_tree (defScope s_is_tree) := ⟨rfl, rfl, rfl, by decide +kernel, rfl, by decide +kernel, by decide +kernel⟩
def dueV : Option Str → V
  | none => .non
  | some z => .str z
def dueB : Option Str → Str → Bool
  | none, _ => true
  | some z, s => decide (z = s)
def tupD : PyData → List PyData
  | .tuple ds => ds
  | _ => []
def allZ (f : Option Str → PyData → Bool) : List PyData → List (List Nat) → Bool
  | d :: ds, k :: ks => f (some (SX.S k)) d && allZ f ds ks
  | _, _ => true
def mOf (ms : List MRow) : PyData → Option MRow
  | .str z => ms.find? fun m => decide (SX.S m.nm = z)
  | _ => none
def nodeB (ms : List MRow) (f : Option Str → PyData → Bool) (due : Option Str) : PyData → Bool
  | .tuple [d0, d1, d2] => match mOf ms d0 with
    | some m => worthB d1 && (tupN m.pt.length d2 && (dueB due (SX.S m.so) && allZ f (tupD d2) m.pt))
    | none => false
  | _ => false
def isTr (ms : List MRow) : Nat → Option Str → PyData → Bool
  | 0, _, _ => false
  | n + 1, due, d => nodeB ms (isTr ms n) due d
theorem mOf_some {ms : List MRow} {d : PyData} {m : MRow} (h : mOf ms d = some m) : m ∈ ms ∧ d = strD m.nm := by
  cases d with
  | str z =>
    have h : ms.find? (fun m => decide (SX.S m.nm = z)) = some m := h
    have e := List.find?_some h
    exact ⟨List.mem_of_find?_eq_some h, by rw [← of_decide_eq_true e]; rfl⟩
  | _ => cases h
theorem mOf_none {ms : List MRow} {d : PyData} (h : mOf ms d = none) : ∀ m ∈ ms, d ≠ strD m.nm := fun m hm e => by
  subst e
  have h : ms.find? (fun m' => decide (SX.S m'.nm = SX.S m.nm)) = none := h
  have := List.find?_eq_none.mp h m hm
  exact this (decide_eq_true rfl)
theorem node_not3 {ms : List MRow} {f : Option Str → PyData → Bool} {due : Option Str} {d : PyData} (h : tupN 3 d = false) : nodeB ms f due d = false := by
  unfold nodeB
  split
  · cases h
  · rfl
/-- the parts of a tuple of three -/
theorem three {K : PySem.W.Frag} {H : Hp} {v : V} {d : PyData} (hd : Dp K H v d) (h : tupN 3 d = true) : ∃ q v0 v1 v2 d0 d1 d2, v = .ref q ∧ d = .tuple [d0, d1, d2] ∧ SqT K H q [v0, v1, v2] ∧ Dp K H v0 d0 ∧ Dp K H v1 d1 ∧ Dp K H v2 d2 := by
  cases hd with
  | tup hS hA =>
    rename_i q xs ds
    have hl : ds.length = 3 := of_decide_eq_true h
    match ds, hl with
    | [d0, d1, d2], _ =>
      cases hA with
      | cons a0 hA =>
        cases hA with
        | cons a1 hA =>
          cases hA with
          | cons a2 hA =>
            cases hA
            exact ⟨q, _, _, _, d0, d1, d2, rfl, rfl, hS, a0, a1, a2⟩
  | _ => cases h
theorem form_at {K : PySem.W.Frag} {H : Hp} {u : V} {m : MRow} (h : Dp K H u (mT m).r) : ∃ q t, u = .ref q ∧ SqT K H q [.str (SX.S m.so), .ref t] ∧ SqT K H t (nmV m.pt) := by
  cases h with
  | tup hS hA =>
    cases hA with
    | cons a0 hA =>
      cases hA with
      | cons a1 hA =>
        cases hA
        cases a0
        cases a1 with
        | tup hS2 hA2 =>
          rw [names_of hA2] at hS2
          exact ⟨_, _, rfl, hS, hS2⟩
theorem tup_at {K : PySem.W.Frag} {H : Hp} {n : Nat} {v : V} {d : PyData} (hd : Dp K H v d) (h : tupN n d = true) : ∃ q vs, v = .ref q ∧ SqT K H q vs ∧ DpAll K H vs (tupD d) ∧ (tupD d).length = n := by
  cases hd with
  | tup hS hA => exact ⟨_, _, rfl, hS, hA, of_decide_eq_true h⟩
  | _ => cases h
/-- all of them, as the list's truths -/
def zipB (f : Option Str → PyData → Bool) (ds : List PyData) (ks : List (List Nat)) (j : Nat) : List Bool := (ds.zip ks).take j |>.map fun x => f (some (SX.S x.2)) x.1
theorem allZ_zip (f : Option Str → PyData → Bool) : ∀ (ds : List PyData) (ks : List (List Nat)), ((ds.zip ks).map fun x => f (some (SX.S x.2)) x.1).all id = allZ f ds ks
  | [], _ => rfl
  | _ :: _, [] => rfl
  | d :: ds, k :: ks => by
    show (f (some (SX.S k)) d && ((ds.zip ks).map fun x => f (some (SX.S x.2)) x.1).all id) = _
    rw [allZ_zip f ds ks]
    rfl
theorem zipB_all (f : Option Str → PyData → Bool) {ds : List PyData} {ks : List (List Nat)} {j : Nat} (h : j = min ds.length ks.length) : (zipB f ds ks j).all id = allZ f ds ks := by
  unfold zipB
  rw [List.take_of_length_le (by rw [List.length_zip]; omega)]
  exact allZ_zip f ds ks
theorem zipB_succ (f : Option Str → PyData → Bool) {ds : List PyData} {ks : List (List Nat)} {j : Nat} {d : PyData} {k : List Nat} (h1 : ds[j]? = some d) (h2 : ks[j]? = some k) : zipB f ds ks (j + 1) = zipB f ds ks j ++ [f (some (SX.S k)) d] := by
  unfold zipB
  have e : (ds.zip ks)[j]? = some (d, k) := by
    rw [List.getElem?_zip_eq_some]
    exact ⟨h1, h2⟩
  rw [List.take_add_one, e, List.map_append]
  rfl
theorem zipB_len (f : Option Str → PyData → Bool) (ds : List PyData) (ks : List (List Nat)) (j : Nat) : (zipB f ds ks j).length ≤ j := by
  unfold zipB
  rw [List.length_map, List.length_take]
  omega
theorem nodup_eq {α : Type} {f : α → List Nat} : ∀ {xs : List α}, (xs.map f).Nodup → ∀ {x y : α}, x ∈ xs → y ∈ xs → f x = f y → x = y
  | [], _, _, _, hx, _, _ => nomatch hx
  | a :: xs, h, x, y, hx, hy, e => by
    rw [List.map_cons, List.nodup_cons] at h
    rcases List.mem_cons.mp hx with hx1 | hx1
    · rcases List.mem_cons.mp hy with hy1 | hy1
      · rw [hx1, hy1]
      · exact absurd (by rw [← hx1, e]; exact List.mem_map_of_mem hy1) h.1
    · rcases List.mem_cons.mp hy with hy1 | hy1
      · exact absurd (by rw [← hy1, ← e]; exact List.mem_map_of_mem hx1) h.1
      · exact nodup_eq h.2 hx1 hy1 e
theorem nmV_k14 {ws : List (List Nat)} {j : Nat} {v : V} (hv : (nmV ws)[j]? = some v) : ∃ u, ws[j]? = some u ∧ v = V.str (SX.S u) := by
  unfold nmV at hv
  rw [List.getElem?_map] at hv
  cases e : ws[j]? with
  | none => rw [e] at hv; cases hv
  | some u => rw [e] at hv; exact ⟨u, rfl, (Option.some.inj hv).symm⟩
theorem sm_len {n : Nat} {d : PyData} (h : Sm n d) : (tupD d).length ≤ 500 := by
  cases h with
  | tup n hl a => exact hl
  | _ => exact Nat.zero_le _
structure Ti (mg : Str → Option Value) : Prop where
  isinstance : mg "isinstance" = none
  int : mg "int" = none
  bool : mg "bool" = none
  str : mg "str" = none
  tuple : mg "tuple" = none
  len : mg "len" = none
  all : mg "all" = none
  zip : mg "zip" = none
def spIsTree (K : PySem.W.Frag) (P : Program) (w : World) (G : Addr) (sn n : Nat) : Sp := fun vs H Q _ => ∃ (Z : Hp) (x : Addr) (v : V) (due : Option Str) (d : PyData) (rs : List SRow) (ms : List MRow) (ru : List RRow) (roof : Nat), vs = [.ref x, v, dueV due] ∧ GrOk K P w G Z H x rs ms ru roof ∧ (ms.map MRow.nm).Nodup ∧ Dp K H v d ∧ Sm (2 * n) d ∧ 2 * n ≤ sn ∧
  ∀ H', Same H H' → Q (.bl (isTr ms n due d)) H'
theorem sm_part {n : Nat} {d0 d1 d2 : PyData} (h : Sm (2 * (n + 1)) (.tuple [d0, d1, d2])) : ∀ x ∈ tupD d2, Sm (2 * n) x := by
  cases h with
  | tup _ _ a =>
    have h2 := a d2 (by simp)
    intro x hx
    cases h2 with
    | tup _ _ b => exact b x hx
    | _ => cases hx
theorem sm_tup {m : Nat} {ds : List PyData} (h : Sm m (.tuple ds)) : ds.length ≤ 500 ∧ ∀ x ∈ ds, Sm m x := by
  cases h with
  | tup n hl a => exact ⟨hl, fun x hx => (a x hx).succ⟩
section
variable {P : Program} {w : World} {K : PySem.W.Frag} {mg : Str → Option Value} {base : Heap} {G C : Addr}
theorem run_is_tree {sn : Nat} (T : Ti mg) (cis_tuple_of : C8.Cal P w K mg base 1 "is_tuple_of" (spTupOf K) []) (cis_worth : C8.Cal P w K mg base 2 "is_worth" (spWorth K) []) (cform_of : C8.Cal P w K mg base (sn + 6) "form_of" (spFormOf K P w G sn) [])
    {f : Addr} {fd : FuncData} (F : FunD K "is_tree" "is_tree" (defArgs s_is_tree) (defBody s_is_tree) (defScope s_is_tree) [] [("sort", .non)] f fd) (g : mg "is_tree" = some (.ref f)) : ∀ n, FnOk P w K mg base CX0 (sn + 7 + n) f fd P_is_tree (spIsTree K P w G sn n) := by
  have hk1 := kbindsN (ps := P_is_tree) F 2 ["sort"] (fun us ws => us ++ ws) (fun h2 h3 => Vals.append h2 h3) (fun kV doc pm an cdv ct us ws hl hw => match us, ws, hl, hw with
    | [_, _], [_], _, _ => rfl)
  have step : ∀ (n : Nat) (sp : Sp), KCal P w K mg base (sn + 6 + n) "is_tree" sp 2 ["sort"] (fun vs zs => vs ++ zs) → (∀ m, n = m + 1 → sp = spIsTree K P w G sn m) → FnOk P w K mg base CX0 (sn + 7 + n) f fd P_is_tree (spIsTree K P w G sn n) := by
    intro n sp cis_tree hsp
    rw [show sn + 7 + n = (sn + 6 + n) + 1 by omega]
    refine F.ok sc_is_tree (fun vs H Q E h => ?_) (fun cdv A outer s H vs Q E hr h => ?_)
    · obtain ⟨Z, x, v, due, d, rs, ms, ru, roof, rfl, _⟩ := h
      rfl
    · obtain ⟨Z, x, v, due, d, rs, ms, ru, roof, rfl, go, hnd, hd, hs, hsn, q⟩ := h
      refine ⟨_, (pss_cons (ps_if (pt_not (pt_val (C8.pe_c cis_tuple_of hr (by omega) (by rfl) (pa_cons (pv 1) (pa_cons pe_int pa_nil)))))
            (pss_one (ps_ret pe_bl))
            pss_nil)
          (pss_cons (ps_asg (pv 1) (pg_tup rfl (pgs_cons (pg_name (i := 3) sc_is_tree.nd rfl (Or.inl rfl)) (pgs_cons (pg_name (i := 4) sc_is_tree.nd rfl (Or.inl rfl)) (pgs_cons (pg_name (i := 5) sc_is_tree.nd rfl (Or.inl rfl)) pgs_nil)))))
          (pss_cons (ps_set (i := 6) sc_is_tree.nd rfl (Or.inl rfl) (C8.pe_c cform_of hr (by omega) (by rfl) (pa_cons (pv 0) (pa_cons (pv 3) pa_nil))))
          (pss_cons (ps_if (PW.pt (pw_or (pt_cmpR op_isN (pv 6) pe_non (nomark _)) (pw_or (pt_not (pt_val (C8.pe_c cis_worth hr (by omega) (by rfl) (pa_cons (pv 4) pa_nil)))) (pw_or1 (pt_not (pt_val (C8.pe_c cis_tuple_of hr (by omega) (by rfl) (pa_cons (pv 5) (pa_cons (pe_callB call_len_seq (by rfl) T.len PySem.boot_len (pa_cons (pe_ix ix_tup (pv 6) pe_int (fun _ _ => rfl)) pa_nil)) pa_nil)))))))))
            (pss_one (ps_ret pe_bl))
            pss_nil)
          (C8.pss_cut (ps_if (PW.pt (pw_and (pt_cmpR op_notN (pv 2) pe_non (nomark _)) (pw_and1 (pt_cmpR op_ne (pv 2) (pe_ix ix_tup (pv 6) pe_int (fun _ _ => rfl)) (nomark _)))))
            (pss_one (ps_ret pe_bl))
            pss_nil)
          (pss_one (ps_ret (pe_callB (cr_all rfl) (by rfl) T.all (by decide +kernel) (pa_cons (pe_lc (g := gTup K 2 (gCons (gName 7) (gCons (gName 8) gNil))) (own := [("part", 7), ("due", 8)]) (by exact rfl) sc_is_tree.nd (RZ.pi_zipA (by rfl) T.zip (pa_cons (pv 5) (pa_cons (pe_ix ix_tup (pv 6) pe_int (fun _ _ => rfl)) pa_nil))) (blkOk_by (own := [("part", 7), ("due", 8)]) (N := N_is_tree) (sc := defScope s_is_tree) (by decide +kernel)) (fun _ _ _ _ _ => (pg_tup (n := 2) rfl (pgs_cons (pg_name (i := 7) sc_is_tree.nd rfl (Or.inl rfl) (Or.inr rfl)) (pgs_cons (pg_name (i := 8) sc_is_tree.nd rfl (Or.inl rfl) (Or.inr rfl)) pgs_nil)))) (fun _ _ _ _ _ => pts_nil) (fun _ _ _ _ _ => (pe_kw cis_tree hr (by omega) (by rfl) (pa_cons (pv 0) (pa_cons (pv 7) pa_nil)) (pk_cons (pv 8) pk_nil)))) pa_nil))))))))), ?_⟩
      refine ⟨_, rfl, v, d, 3, rfl, hd, _, rfl, ?_⟩
      cases n with
      | zero =>
        have e3 : tupN 3 d = false := by cases hs <;> rfl
        rw [e3]
        exact iteT (q H (Same.refl H))
      | succ n =>
        obtain rfl := hsp n rfl
        cases h3 : tupN 3 d with
        | false =>
          have e : isTr ms (n + 1) due d = false := node_not3 h3
          rw [e] at q
          exact iteT (q H (Same.refl H))
        | true =>
          refine iteF ?_
          obtain ⟨p, v0, v1, v2, d0, d1, d2, rfl, rfl, hS, h0, h1, h2⟩ := three hd h3
          refine ⟨_, rfl, p, _, rfl, hS, rfl, _, _, rfl, _, _, rfl, _, _, rfl, rfl, ?_⟩
          have hsa := sm_tup hs
          refine ⟨_, rfl, _, rfl, Z, x, v0, d0, rs, ms, ru, roof, rfl, go, hnd, h0, (hsa.2 d0 (by simp)).up hsn, fun m hm e0 u hu => ?_, fun hno H1 s1 => ?_⟩
          · have em : mOf ms d0 = some m := by
              cases e : mOf ms d0 with
              | none => exact absurd e0 (mOf_none e m hm)
              | some m' =>
                obtain ⟨hm', e1⟩ := mOf_some e
                have en : m'.nm = m.nm := by
                  rw [e0] at e1
                  exact (SX.S_inj (PyData.str.inj e1)).symm
                rw [nodup_eq hnd hm' hm en]
            have hv : isTr ms (n + 1) due (.tuple [d0, d1, d2]) = (worthB d1 && (tupN m.pt.length d2 && (dueB due (SX.S m.so) && allZ (isTr ms n) (tupD d2) m.pt))) := by
              show (match mOf ms d0 with | some m => worthB d1 && (tupN m.pt.length d2 && (dueB due (SX.S m.so) && allZ (isTr ms n) (tupD d2) m.pt)) | none => false) = _
              rw [em]
            rw [hv] at q
            obtain ⟨fq, ft, rfl, hf, hft⟩ := form_at hu
            refine ⟨_, rfl, rfl, _, rfl, iteF ?_⟩
            refine ⟨_, rfl, v1, d1, rfl, h1, _, rfl, ?_⟩
            cases hw : worthB d1 with
            | false =>
              rw [hw] at q
              exact iteT (iteT (q H (Same.refl H)))
            | true =>
              rw [hw] at q
              refine iteF ?_
              refine ⟨_, rfl, _, rfl, fq, _, 1, .ref ft, rfl, rfl, hf, atI_nat (j := 1) rfl, ft, _, rfl, .inr hft, v2, d2, m.pt.length, by rw [nmV_len]; rfl, h2, _, rfl, ?_⟩
              cases ht : tupN m.pt.length d2 with
              | false =>
                rw [ht] at q
                exact iteT (q H (Same.refl H))
              | true =>
                rw [ht] at q
                refine iteF ?_
                obtain ⟨tq, tvs, rfl, htS, htA, htl⟩ := tup_at h2 ht
                have q' : ∀ b, b = dueB due (SX.S m.so) → ∀ H', Same H H' → Q (.bl (b && allZ (isTr ms n) (tupD d2) m.pt)) H' := fun b e => by
                  rw [e]
                  exact q
                refine ⟨fun σ X => σ = [some (.ref x), some (.ref p), some (dueV due), some v0, some v1, some (.ref tq), some (.ref fq), none, none] ∧ X = H ∧ dueB due (SX.S m.so) = true, ?_, ?_⟩
                · cases due with
                  | none => exact ⟨_, rfl, rfl, _, rfl, iteF ⟨rfl, rfl, rfl⟩⟩
                  | some z =>
                    refine ⟨_, rfl, rfl, _, rfl, iteT ?_⟩
                    refine ⟨_, rfl, _, rfl, fq, _, 0, .str (SX.S m.so), rfl, rfl, hf, atI_nat (j := 0) rfl, rfl, _, rfl, ?_⟩
                    by_cases hz : z = SX.S m.so
                    · refine ifF (by rw [hz]; exact show (!decide (V.str (SX.S m.so) = V.str (SX.S m.so))) = false by simp) ⟨rfl, rfl, by rw [hz]; exact decide_eq_true rfl⟩
                    · refine ifT (show (!decide (V.str z = V.str (SX.S m.so))) = true by simp [hz]) ?_
                      exact q' false (decide_eq_false hz).symm H (Same.refl H)
                · rintro σ X ⟨rfl, eX, hdue⟩
                  rw [eX]
                  have q2 := q' true hdue.symm
                  have ltv := dpAll_len htA
                  refine ⟨_, rfl, _, rfl, fq, _, 1, .ref ft, rfl, rfl, hf, atI_nat (j := 1) rfl, tq, ft, tvs, nmV m.pt, rfl, .inr ⟨htS, hft, fun D nD => ?_⟩⟩
                  refine lc_it (walk_zipT (K := K) (a := tq) (b := ft) (xs := tvs) (ys := nmV m.pt) rfl) (fun j H' => Same H H' ∧ H' D = some (.lst ((zipB (isTr ms n) (tupD d2) m.pt j).map V.bl)))
                    ⟨same_upd nD, upd_same⟩ (fun j H' _ h => ⟨Same.seqT h.1 htS, Same.seqT h.1 hft⟩) ?_ ?_
                  · rintro j vj H3 H4 hj ⟨sm, hD⟩ ⟨U, xx, yy, rfl, nU, rfl, ex, ey⟩
                    obtain ⟨dj, e1, g1⟩ := dpAll_at htA ex
                    obtain ⟨kj, e2, rfl⟩ := nmV_k14 (ws := m.pt) (j := j) ey
                    have sU : Same H3 (upd H3 U (.tup [xx, .str (SX.S kj)])) := same_upd nU
                    have s5 := sm.trans sU
                    refine ⟨U, _, rfl, SqT.of upd_same, rfl, _, _, rfl, _, _, rfl, rfl, ?_⟩
                    refine ⟨rfl, yesT ?_⟩
                    refine ⟨_, rfl, _, rfl, _, rfl, rfl, rfl, Z, x, xx, some (SX.S kj), dj, rs, ms, ru, roof, rfl, go.same s5, hnd, dp_same s5 g1, sm_part hs dj (List.mem_of_getElem? e1), by omega, fun H6 s6 => ?_⟩
                    have lz := zipB_len (isTr ms n) (tupD d2) m.pt j
                    have hj5 : j < 500 := by
                      have := (List.getElem?_eq_some_iff.mp e1).1
                      have := sm_len (hsa.2 d2 (by simp))
                      omega
                    refine ⟨_, s6 _ _ (sU _ _ hD), by rw [List.length_map]; exact small1000 (by omega), Same.at_ (s5.trans s6) nD, ?_⟩
                    rw [upd_same, zipB_succ _ e1 e2, List.map_append]
                    rfl
                  · rintro H6 ⟨s6, hD⟩
                    refine ⟨D, _, rfl, SqL.of hD, ?_⟩
                    rw [zipB_all _ (by rw [ltv, nmV_len])]
                    exact q2 H6 s6
          · have en : mOf ms d0 = none := by
              cases e : mOf ms d0 with
              | none => rfl
              | some m' => exact absurd (mOf_some e).2 (hno m' (mOf_some e).1)
            have hv : isTr ms (n + 1) due (.tuple [d0, d1, d2]) = false := by
              show (match mOf ms d0 with | some m => worthB d1 && (tupN m.pt.length d2 && (dueB due (SX.S m.so) && allZ (isTr ms n) (tupD d2) m.pt)) | none => false) = _
              rw [en]
            rw [hv] at q
            exact ⟨_, rfl, rfl, _, rfl, iteT (q H1 s1)⟩
  intro n
  induction n with
  | zero => exact step 0 (fun _ _ _ _ => False) ⟨f, fd, P_is_tree, _, ⟨fun vs H Q E h => h.elim, fun _ _ _ _ _ _ _ _ _ _ _ _ _ h => h.elim⟩, g, F.kp, hk1⟩ (fun m e => nomatch e)
  | succ n ih => exact step (n + 1) _ ⟨f, fd, P_is_tree, _, by rw [show sn + 6 + (n + 1) = sn + 7 + n by omega]; exact ih, g, F.kp, hk1⟩ (fun m e => by cases e; rfl)
end
/-! ### min of data -/
def rMinL (K : PySem.W.Frag) : List V → Hp → VK → Prop := fun xs H Q => ∃ (a : Addr) (vs : List V) (x : PyData) (ds : List PyData), xs = [.ref a] ∧ SqL K H a vs ∧ DpAll K H vs (x :: ds) ∧ PySem.W.AlikeAll (x :: ds) ∧ PyData.depthAll (x :: ds) ≤ 60 ∧ ∀ (i : Nat) (v : V), vs[i]? = some v → (x :: ds)[i]? = some (PySem.W.minD x ds) → Q v H
def rMin2 (K : PySem.W.Frag) : List V → Hp → VK → Prop := fun xs H Q => ∃ (u v : V) (d e : PyData), xs = [u, v] ∧ Dp K H u d ∧ Dp K H v e ∧ PySem.W.AlikeAll [d, e] ∧ d.depth ≤ 60 ∧ e.depth ≤ 60 ∧ (PySem.W.dataLt e d = true → Q v H) ∧ (PySem.W.dataLt e d = false → Q u H)
theorem vals_back {xs : List V} {us : List Value} {i : Nat} {u : Value} (r : Vals xs us) (h : us[i]? = some u) : ∃ x, xs[i]? = some x ∧ RelV x u := by
  have hi : i < xs.length := by
    rw [r.length]
    exact (List.getElem?_eq_some_iff.mp h).1
  obtain ⟨u', h', r'⟩ := r.get (List.getElem?_eq_getElem hi)
  rw [h] at h'
  cases h'
  exact ⟨_, List.getElem?_eq_getElem hi, r'⟩
section
variable {prog : Program} {w : World} {A : Around} {E : Value → Shared → Prop} {s : Shared}
open PyProof.Rows in
theorem min_two_data {a b : Value} {d e : PyData} {as bs : List Addr} {Q : Value → Shared → Prop} (hh : A.handled = none) (ra : Reads s.heap a d as) (rb : Reads s.heap b e bs) (ha : PySem.W.AlikeAll [d, e]) (hu : A.units + 1 + PyData.depthAll [d, e] < cLine)
    (h : ∀ h' tk, (∀ c o, s.heap.get? c = some o → h'.get? c = some o) → Q (if PySem.W.dataLt e d = true then b else a) { s with heap := h', toks := tk }) : wpAny (model prog w) A (call (.builtin "min") [a, b]) Q E s := by
  have hname : (toString "min" ++ toString ".loop" : String) = "min.loop" := by decide
  refine call_function_tree PySem.F.kind_min PySem.F.plain_min PySem.F.entry_min (PySem.F.args_min2 _ _) ?_
  show wpAny _ A.in1 (Builtin.Builtins.bindParams "min" ["key", "default"] 0 ⟨[], []⟩ >>= _) _ _ s
  refine wpAny_bind (wpAny_of_eq (show Builtin.Builtins.bindParams "min" ["key", "default"] 0 ⟨[], []⟩ = pure [none, none] from rfl) ?_)
  show wpAny _ A.in1 (newTuple [a, b] >>= _) _ _ s
  refine wpAny_bind (wpAny_newObj_type ?_)
  have hT : (s.heap.push { cls := .type "tuple", data := .seq #[a, b] }).IsTuple s.heap.objs.size #[a, b] := ⟨_, Heap.get?_push_size _ rfl, rfl, 0, rfl⟩
  have hr : ReadsAll (s.heap.push { cls := .type "tuple", data := .seq #[a, b] }) [a, b] [d, e] (as ++ (bs ++ [])) := .cons (PyProof.Rows.Reads.keeps (fun c o z => Heap.get?_push_of_some _ z) ra) (.cons (PyProof.Rows.Reads.keeps (fun c o z => Heap.get?_push_of_some _ z) rb) .nil)
  refine wpAny_bind (PySem.W.iter_tupleW (A := A.in1) (s := { s with heap := s.heap.push { cls := .type "tuple", data := .seq #[a, b] } }) hh hT fun s₂ e2 W st hfp hw hk => ?_)
  refine wpAny_bind (wpAny_newObj_type ?_)
  rw [hname]
  have hSf : s₂.heap.objs.size ∉ [(s.heap.push { cls := .type "tuple", data := .seq #[a, b] }).objs.size, s.heap.objs.size] := fun hm => Nat.lt_irrefl _ (hfp _ hm)
  refine wpAny_pure ⟨plainId_quiet PySem.F.plain_min_loop _, codeAny_min_loop_firstH W (s.heap.push { cls := .type "tuple", data := .seq #[a, b] }) hw _ (PySem.W.cmpIn_lt (A := A.in1) (s := { s with heap := s.heap.push { cls := .type "tuple", data := .seq #[a, b] } }) hr ha (by show A.units + 1 + _ < _; exact hu)) s₂.heap.objs.size hSf (fresh_in hk) _ (by show 0 < 2; decide) (fun b o z => Heap.get?_push_of_some _ (hk b o z)) (W.frame 0 s₂ _ s₂.toks st (Nat.le_refl _) fun b _ o z => Heap.get?_push_of_some _ z) (Heap.get?_push_size _ rfl) fun v s' hP hm => ?_⟩
  have m2 := Moved.drop_new (tk := s₂.toks) hm (Nat.le_refl _)
  obtain ⟨h', tk, rfl, hk'⟩ := PySem.W.moved_old e2 rfl m2
  have hv : v = if PySem.W.dataLt e d = true then b else a := by
    have hP' : (#[a, b] : Array Value)[argBest (fun i j => PySem.W.dataLt ([d, e].getD i .none) ([d, e].getD j .none)) 1]? = some v := hP
    have eb : argBest (fun i j => PySem.W.dataLt ([d, e].getD i .none) ([d, e].getD j .none)) 1 = if PySem.W.dataLt e d = true then 1 else 0 := rfl
    rw [eb] at hP'
    by_cases hz : PySem.W.dataLt e d = true
    · rw [if_pos hz] at hP' ⊢
      exact (Option.some.inj hP').symm
    · rw [if_neg hz] at hP' ⊢
      exact (Option.some.inj hP').symm
  rw [hv]
  exact h h' tk fun c o z => hk' c o (Heap.get?_push_of_some _ z)
end
section
variable {X : Cx}
theorem cr_minL (hc : X.calm = true) (hu : X.A.units + 65 < cLine) : CallR X (.builtin "min") (rMinL X.K) := by
  intro pins s σ H xs us Q I r h
  obtain ⟨a, xs, x, ds, rfl, hs, hx, hal, hdp, q⟩ := h
  obtain ⟨its, rv, hl, hz⟩ := I.list hs
  obtain ⟨u, rfl, ru⟩ := vals1 r
  obtain rfl : u = Value.ref a := ru
  obtain ⟨as, ra⟩ := Dp.readsAll I (x :: ds) xs its hx rv
  refine PySem.W.min_list_data (I.ok.hd hc) hl.isList (by simpa using ra) hal (by omega) fun i v h' tk bs hi hr k => ?_
  have hi' : its[i]? = some v := by simpa using hi
  obtain ⟨y, hy, ry⟩ := vals_back rv hi'
  obtain ⟨d, hd, hyd⟩ := dpAll_at hx hy
  obtain ⟨as', r1⟩ := Dp.reads I d y v hyd ry
  have e : d = PySem.W.minD x ds := (PySem.Reads.unique (PyProof.Rows.Reads.keeps k r1) _ _ hr).1
  exact ⟨y, H, I.kept k, ry, q i y hy (e ▸ hd)⟩
theorem cr_min2 (hc : X.calm = true) (hu : X.A.units + 65 < cLine) : CallR X (.builtin "min") (rMin2 X.K) := by
  intro pins s σ H xs us Q I r h
  obtain ⟨u, v, d, e, rfl, hx, hy, hal, d1, d2, q1, q2⟩ := h
  obtain ⟨u', v', rfl, ru, rv⟩ := vals2 r
  obtain ⟨as, ra⟩ := Dp.reads I d u u' hx ru
  obtain ⟨bs, rb⟩ := Dp.reads I e v v' hy rv
  refine min_two_data (I.ok.hd hc) ra rb hal ?_ fun h' tk k => ?_
  · show X.A.units + 1 + max d.depth (max e.depth 0) < cLine
    omega
  · by_cases hz : PySem.W.dataLt e d = true
    · rw [if_pos hz]
      exact ⟨v, H, I.kept k, rv, q1 hz⟩
    · rw [if_neg hz]
      exact ⟨u, H, I.kept k, ru, q2 (Bool.eq_false_iff.mpr hz)⟩
end
/-! ### data of numbers, texts and tuples -/
mutual
def pur : PyData → Bool
  | .int _ => true
  | .str _ => true
  | .tuple ds => purAll ds
  | _ => false
def purAll : List PyData → Bool
  | [] => true
  | d :: ds => pur d && purAll ds
end
mutual
theorem eqv_pur : ∀ x y : PyData, pur x = true → pur y = true → (PyData.eqv x y = true ↔ x = y)
  | .int i, .int j, _, _ => by
    show (i == j) = true ↔ _
    rw [beq_iff_eq]
    exact ⟨fun h => by rw [h], fun h => by cases h; rfl⟩
  | .str a, .str b, _, _ => by
    show (a == b) = true ↔ _
    rw [beq_iff_eq]
    exact ⟨fun h => by rw [h], fun h => by cases h; rfl⟩
  | .tuple xs, .tuple ys, h1, h2 => by
    rw [PyData.eqv]
    rw [eqvAll_pur xs ys h1 h2]
    exact ⟨fun h => by rw [h], fun h => by cases h; rfl⟩
  | .int _, .str _, _, _ => ⟨fun h => by rw [PyData.eqv] at h <;> first | cases h | (intros; contradiction), fun h => nomatch h⟩
  | .int _, .tuple _, _, _ => ⟨fun h => by rw [PyData.eqv] at h <;> first | cases h | (intros; contradiction), fun h => nomatch h⟩
  | .str _, .int _, _, _ => ⟨fun h => by rw [PyData.eqv] at h <;> first | cases h | (intros; contradiction), fun h => nomatch h⟩
  | .str _, .tuple _, _, _ => ⟨fun h => by rw [PyData.eqv] at h <;> first | cases h | (intros; contradiction), fun h => nomatch h⟩
  | .tuple _, .int _, _, _ => ⟨fun h => by rw [PyData.eqv] at h <;> first | cases h | (intros; contradiction), fun h => nomatch h⟩
  | .tuple _, .str _, _, _ => ⟨fun h => by rw [PyData.eqv] at h <;> first | cases h | (intros; contradiction), fun h => nomatch h⟩
  | .none, _, h, _ => by cases h
  | .bool _, _, h, _ => by cases h
  | .list _, _, h, _ => by cases h
  | .dict _, _, h, _ => by cases h
  | _, .none, _, h => by cases h
  | _, .bool _, _, h => by cases h
  | _, .list _, _, h => by cases h
  | _, .dict _, _, h => by cases h
theorem eqvAll_pur : ∀ xs ys : List PyData, purAll xs = true → purAll ys = true → (PyData.eqvAll xs ys = true ↔ xs = ys)
  | [], [], _, _ => ⟨fun _ => rfl, fun _ => rfl⟩
  | [], _ :: _, _, _ => ⟨fun h => (nomatch h), fun h => nomatch h⟩
  | _ :: _, [], _, _ => ⟨fun h => (nomatch h), fun h => nomatch h⟩
  | x :: xs, y :: ys, h1, h2 => by
    have h1 : (pur x && purAll xs) = true := h1
    have h2 : (pur y && purAll ys) = true := h2
    rw [Bool.and_eq_true] at h1 h2
    rw [PySem.W.eqv_all_cons, Bool.and_eq_true, eqv_pur x y h1.1 h2.1, eqvAll_pur xs ys h1.2 h2.2]
    exact ⟨fun h => by rw [h.1, h.2], fun h => by cases h; exact ⟨rfl, rfl⟩⟩
end
/-! ### least trees: the mathematics -/
def trD (m : List Nat) (ps : List PyData) : PyData := .tuple [strD m, .int 0, .tuple ps]
def TrF : Nat → PyData → Prop
  | 0, _ => False
  | n + 1, d => ∃ (m : List Nat) (ps : List PyData), d = trD m ps ∧ ps.length ≤ 2 ∧ ∀ p ∈ ps, TrF n p
theorem TrF.mono : ∀ {n k : Nat} {d : PyData}, TrF n d → n ≤ k → TrF k d
  | 0, _, _, h, _ => h.elim
  | n + 1, 0, _, _, l => absurd l (by omega)
  | n + 1, k + 1, d, ⟨m, ps, e, l2, h⟩, l => ⟨m, ps, e, l2, fun p hp => (h p hp).mono (by omega)⟩
theorem alike_tr {m m' : List Nat} {ps ps' : List PyData} (h : PySem.W.alikeAll ps ps' = true) : PySem.W.alike (trD m ps) (trD m' ps') = true := by
  unfold trD strD
  simp only [PySem.W.alike, PySem.W.alikeAll, h, Bool.and_self]
theorem alikeAll_of : ∀ {ps ps' : List PyData}, (∀ p ∈ ps, ∀ q ∈ ps', PySem.W.alike p q = true) → PySem.W.alikeAll ps ps' = true
  | [], ps', _ => by
    unfold PySem.W.alikeAll
    cases ps' <;> rfl
  | p :: ps, [], _ => by
    unfold PySem.W.alikeAll
    rfl
  | p :: ps, q :: qs, h => by
    rw [PySem.W.alikeAll, h p List.mem_cons_self q List.mem_cons_self, alikeAll_of fun a ha b hb => h a (List.mem_cons_of_mem _ ha) b (List.mem_cons_of_mem _ hb)]
    rfl
theorem TrF.alike : ∀ {n k : Nat} {x y : PyData}, TrF n x → TrF k y → PySem.W.alike x y = true
  | 0, _, _, _, h, _ => h.elim
  | _ + 1, 0, _, _, _, h => h.elim
  | n + 1, k + 1, _, _, ⟨m, ps, rfl, _, h⟩, ⟨m', ps', rfl, _, h'⟩ => alike_tr (alikeAll_of fun p hp q hq => (h p hp).alike (h' q hq))
theorem purAll_of : ∀ {ps : List PyData}, (∀ p ∈ ps, pur p = true) → purAll ps = true
  | [], _ => rfl
  | p :: ps, h => by
    show (pur p && purAll ps) = true
    rw [h p List.mem_cons_self, purAll_of fun a ha => h a (List.mem_cons_of_mem _ ha)]
    rfl
theorem TrF.pur : ∀ {n : Nat} {x : PyData}, TrF n x → Thr.pur x = true
  | 0, _, h => h.elim
  | n + 1, _, ⟨m, ps, rfl, _, h⟩ => by
    show (true && (true && (purAll ps && true))) = true
    rw [purAll_of fun p hp => (h p hp).pur]
    rfl
theorem depthAll_of {n : Nat} : ∀ {ds : List PyData}, (∀ d ∈ ds, PyData.depth d ≤ n) → PyData.depthAll ds ≤ n
  | [], _ => Nat.zero_le _
  | d :: ds, h => by
    show max (PyData.depth d) (PyData.depthAll ds) ≤ n
    have h1 := h d List.mem_cons_self
    have h2 := depthAll_of (ds := ds) fun x hx => h x (List.mem_cons_of_mem _ hx)
    omega
theorem TrF.depth : ∀ {n : Nat} {x : PyData}, TrF n x → PyData.depth x ≤ 2 * n
  | 0, _, h => h.elim
  | n + 1, _, ⟨m, ps, rfl, _, h⟩ => by
    have := depthAll_of (ds := ps) fun p hp => (h p hp).depth
    show max 0 (max 0 (max (PyData.depthAll ps + 1) 0)) + 1 ≤ 2 * (n + 1)
    omega
theorem immAll_ofL : ∀ {ps : List PyData}, (∀ p ∈ ps, imm p = true) → immAll ps = true
  | [], _ => rfl
  | p :: ps, h => by
    show (imm p && immAll ps) = true
    rw [h p List.mem_cons_self, immAll_ofL fun a ha => h a (List.mem_cons_of_mem _ ha)]
    rfl
theorem TrF.imm : ∀ {n : Nat} {x : PyData}, TrF n x → Thr.imm x = true
  | 0, _, h => h.elim
  | n + 1, _, ⟨m, ps, rfl, _, h⟩ => by
    show (true && (true && (immAll ps && true))) = true
    rw [immAll_ofL fun p hp => (h p hp).imm]
    rfl
theorem TrF.ne {n : Nat} {x : PyData} (h : TrF n x) : x ≠ .none := by
  cases n with
  | zero => exact h.elim
  | succ n =>
    obtain ⟨m, ps, rfl, _⟩ := h
    exact fun z => by cases z
/-! their order -/
theorem toks_inj {x y : PyData} (h : PySem.W.alike x y = true) (px : pur x = true) (py : pur y = true) (e : PySem.W.keyToks x = PySem.W.keyToks y) : x = y := by
  cases he : PyData.eqv x y with
  | true => exact (eqv_pur x y px py).mp he
  | false =>
    have z := (PySem.W.toks_eqv x y h).2 he [] [.inl 0]
    rw [e, PySem.W.lex_pre, PyProof.Rows.lex_irrefl] at z
    exact absurd z (by decide)
theorem ltD_total {x y : PyData} (h : PySem.W.alike x y = true) (px : pur x = true) (py : pur y = true) (h1 : PySem.W.dataLt x y = false) (h2 : PySem.W.dataLt y x = false) : x = y := toks_inj h px py (PyProof.Rows.lex_total (O := PyProof.Rows.itemOrd) _ _ h1 h2)
theorem ltD_tr {x y z : PyData} (h1 : PySem.W.dataLt y x = false) (h2 : PySem.W.dataLt z y = false) : PySem.W.dataLt z x = false := by
  cases e : PySem.W.dataLt z x with
  | false => rfl
  | true =>
    rcases PyProof.Rows.lex_negTrans (O := PyProof.Rows.itemOrd) _ (PySem.W.keyToks y) _ e with h | h
    · rw [show PySem.W.dataLt z y = true from h] at h2
      cases h2
    · rw [show PySem.W.dataLt y x = true from h] at h1
      cases h1
theorem ltD_irr (x : PyData) : PySem.W.dataLt x x = false := PyProof.Rows.lex_irrefl (O := PyProof.Rows.itemOrd) _
theorem ltD_asym {x y : PyData} (h : PySem.W.dataLt x y = true) : PySem.W.dataLt y x = false := by
  cases e : PySem.W.dataLt y x with
  | false => rfl
  | true =>
    have := PyProof.Rows.lex_trans (O := PyProof.Rows.itemOrd) _ _ _ h e
    rw [PyProof.Rows.lex_irrefl (O := PyProof.Rows.itemOrd)] at this
    cases this
theorem minD_mem : ∀ (xs : List PyData) (x : PyData), PySem.W.minD x xs ∈ x :: xs
  | [], x => List.mem_cons_self
  | z :: xs, x => by
    show PySem.W.minD (if PySem.W.dataLt z x then z else x) xs ∈ _
    have h := minD_mem xs (if PySem.W.dataLt z x then z else x)
    rcases List.mem_cons.mp h with h | h
    · rw [h]
      split
      · exact List.mem_cons_of_mem _ List.mem_cons_self
      · exact List.mem_cons_self
    · exact List.mem_cons_of_mem _ (List.mem_cons_of_mem _ h)
theorem minD_le : ∀ (xs : List PyData) (x : PyData), ∀ y ∈ x :: xs, PySem.W.dataLt y (PySem.W.minD x xs) = false
  | [], x, y, hy => by
    rw [List.mem_singleton.mp hy]
    exact ltD_irr x
  | z :: xs, x, y, hy => by
    show PySem.W.dataLt y (PySem.W.minD (if PySem.W.dataLt z x then z else x) xs) = false
    have h := minD_le xs (if PySem.W.dataLt z x then z else x)
    have h0 := h _ List.mem_cons_self
    rcases List.mem_cons.mp hy with rfl | hy
    · cases e : PySem.W.dataLt z y with
      | true =>
        rw [e, if_pos rfl] at h0
        exact ltD_tr h0 (ltD_asym e)
      | false =>
        rw [e, if_neg (by decide)] at h0
        exact h0
    · rcases List.mem_cons.mp hy with rfl | hy
      · cases e : PySem.W.dataLt y x with
        | true =>
          rw [e, if_pos rfl] at h0
          exact h0
        | false =>
          rw [e, if_neg (by decide)] at h0
          exact ltD_tr h0 e
      · exact h y (List.mem_cons_of_mem _ hy)
def minO : List PyData → Option PyData
  | [] => none
  | x :: xs => some (PySem.W.minD x xs)
theorem minO_snoc (xs : List PyData) (y : PyData) : minO (xs ++ [y]) = some (match minO xs with
    | none => y
    | some b => if PySem.W.dataLt y b = true then y else b) := by
  cases xs with
  | nil => rfl
  | cons x xs =>
    show some (PySem.W.minD x (xs ++ [y])) = some (if PySem.W.dataLt y (PySem.W.minD x xs) = true then y else PySem.W.minD x xs)
    unfold PySem.W.minD
    rw [List.foldl_append]
    rfl
theorem minO_some {xs : List PyData} {t : PyData} (h : minO xs = some t) : t ∈ xs ∧ ∀ y ∈ xs, PySem.W.dataLt y t = false := by
  cases xs with
  | nil => cases h
  | cons x xs =>
    cases h
    exact ⟨minD_mem xs x, minD_le xs x⟩
theorem minO_none {xs : List PyData} (h : minO xs = none) : xs = [] := by
  cases xs with
  | nil => rfl
  | cons x xs => cases h
theorem minO_is {xs : List PyData} {t : PyData} (ht : t ∈ xs) (hl : ∀ y ∈ xs, PySem.W.dataLt y t = false) (hal : ∀ y ∈ xs, PySem.W.alike y t = true ∧ pur y = true) (pt : pur t = true) : minO xs = some t := by
  cases h : minO xs with
  | none =>
    rw [minO_none h] at ht
    cases ht
  | some b =>
    obtain ⟨h1, h2⟩ := minO_some h
    rw [ltD_total (hal b h1).1 (hal b h1).2 pt (hl b h1) (h2 t ht)]
/-! ### the law's table -/
def Cs (B : Nat → List Nat → Option PyData) (n : Nat) (m : MRow) : List PyData :=
  match m.pt with
  | [] => if n = 1 then [trD m.nm []] else []
  | [p] => match B (n - 1) p with
    | some t => [trD m.nm [t]]
    | none => []
  | [p, q] => (List.range (n - 2)).flatMap fun i => match B (i + 1) p, B (n - 1 - (i + 1)) q with
    | some t, some u => [trD m.nm [t, u]]
    | _, _ => []
  | _ => []
def Ps (B : Nat → List Nat → Option PyData) (ms : List MRow) (n : Nat) : List (List Nat × PyData) := ms.flatMap fun m => (Cs B n m).map fun t => (m.so, t)
def ofS (s : List Nat) (L : List (List Nat × PyData)) : List PyData := (L.filter fun e => decide (e.1 = s)).map (·.2)
def Bf (ms : List MRow) : Nat → Nat → List Nat → Option PyData
  | 0, _, _ => none
  | n + 1, k, s => if k = n + 1 then minO (ofS s (Ps (Bf ms n) ms (n + 1))) else Bf ms n k s
/-- the table while the trees of n + 1 nodes are gone through -/
def Tb (ms : List MRow) (n : Nat) (L : List (List Nat × PyData)) (k : Nat) (s : List Nat) : Option PyData := if k = n + 1 then minO (ofS s L) else Bf ms n k s
theorem Bf_gt (ms : List MRow) : ∀ (n k : Nat) (s : List Nat), n < k → Bf ms n k s = none
  | 0, _, _, _ => rfl
  | n + 1, k, s, h => by
    unfold Bf
    rw [if_neg (by omega)]
    exact Bf_gt ms n k s (by omega)
theorem Bf_z (ms : List MRow) : ∀ (n : Nat) (s : List Nat), Bf ms n 0 s = none
  | 0, _ => rfl
  | n + 1, s => by
    unfold Bf
    rw [if_neg (by omega)]
    exact Bf_z ms n s
def Bs (ms : List MRow) (k : Nat) (s : List Nat) : Option PyData := Bf ms k k s
theorem Bf_le (ms : List MRow) : ∀ (n k : Nat) (s : List Nat), k ≤ n → Bf ms n k s = Bs ms k s
  | 0, k, s, h => by
    obtain rfl : k = 0 := by omega
    rfl
  | n + 1, k, s, h => by
    by_cases e : k = n + 1
    · rw [e]
      rfl
    · have := Bf_le ms n k s (by omega)
      rw [← this]
      conv => lhs; unfold Bf
      rw [if_neg e]
theorem fm_congr {α β : Type} {f g : α → List β} : ∀ {xs : List α}, (∀ x ∈ xs, f x = g x) → xs.flatMap f = xs.flatMap g
  | [], _ => rfl
  | x :: xs, h => by
    rw [List.flatMap_cons, List.flatMap_cons, h x List.mem_cons_self, fm_congr fun a ha => h a (List.mem_cons_of_mem _ ha)]
theorem Cs_congr {B B' : Nat → List Nat → Option PyData} {n : Nat} (hn : 1 ≤ n) (h : ∀ k < n, ∀ s, B k s = B' k s) (m : MRow) : Cs B n m = Cs B' n m := by
  unfold Cs
  split
  · rfl
  · rw [h (n - 1) (by omega)]
  · refine fm_congr fun i hi => ?_
    have := List.mem_range.mp hi
    rw [h (i + 1) (by omega), h (n - 1 - (i + 1)) (by omega)]
  · rfl
theorem Bs_z (ms : List MRow) (s : List Nat) : Bs ms 0 s = none := rfl
theorem Bs_is (ms : List MRow) (n : Nat) (s : List Nat) : Bs ms (n + 1) s = minO (ofS s (Ps (Bs ms) ms (n + 1))) := by
  have e : Ps (Bf ms n) ms (n + 1) = Ps (Bs ms) ms (n + 1) := by
    unfold Ps
    exact fm_congr fun m _ => by rw [Cs_congr (by omega) (fun k hk s => Bf_le ms n k s (by omega)) m]
  unfold Bs
  conv => lhs; unfold Bf
  rw [if_pos rfl, e]
  rfl
/-- the parts of a tree of so many nodes -/
def PkL (B : Nat → List Nat → Option PyData) (pt : List (List Nat)) (zs : List (Nat × PyData)) : Prop := Paired (fun p z => B z.1 p = some z.2) pt zs
def sumZ (zs : List (Nat × PyData)) : Nat := (zs.map (·.1)).sum
theorem cs_of {B : Nat → List Nat → Option PyData} {n : Nat} {m : MRow} {t : PyData} (h : t ∈ Cs B n m) (hn : 1 ≤ n) : ∃ zs, PkL B m.pt zs ∧ n = 1 + sumZ zs ∧ t = trD m.nm (zs.map (·.2)) := by
  unfold Cs at h
  split at h
  · rename_i e
    split at h
    · rw [e]
      exact ⟨[], .nil, by assumption, List.mem_singleton.mp h⟩
    · cases h
  · rename_i p e
    split at h
    · rename_i t1 e1
      rw [e]
      refine ⟨[(n - 1, t1)], .cons e1 .nil, ?_, List.mem_singleton.mp h⟩
      show n = 1 + (n - 1 + 0)
      omega
    · cases h
  · rename_i p q e
    obtain ⟨i, hi, h⟩ := List.mem_flatMap.mp h
    have hi := List.mem_range.mp hi
    split at h
    · rename_i t1 t2 e1 e2
      rw [e]
      refine ⟨[(i + 1, t1), (n - 1 - (i + 1), t2)], .cons e1 (.cons e2 .nil), ?_, List.mem_singleton.mp h⟩
      show n = 1 + (i + 1 + (n - 1 - (i + 1) + 0))
      omega
    · cases h
  · cases h
theorem cs_in {B : Nat → List Nat → Option PyData} {m : MRow} {zs : List (Nat × PyData)} (h0 : ∀ s, B 0 s = none) (h2 : m.pt.length ≤ 2) (h : PkL B m.pt zs) : trD m.nm (zs.map (·.2)) ∈ Cs B (1 + sumZ zs) m := by
  have pos : ∀ {p : List Nat} {z : Nat × PyData}, B z.1 p = some z.2 → 1 ≤ z.1 := fun {p z} e => by
    cases hz : z.1 with
    | zero =>
      rw [hz, h0] at e
      cases e
    | succ k => omega
  unfold Cs
  unfold PkL at h
  split
  · rename_i e
    rw [e] at h
    cases h
    rw [if_pos (show 1 + sumZ [] = 1 from rfl)]
    exact List.mem_singleton.mpr rfl
  · rename_i p e
    rw [e] at h
    cases h with
    | cons a h =>
      cases h
      rename_i z
      rw [show 1 + sumZ [z] - 1 = z.1 from by show 1 + (z.1 + 0) - 1 = z.1; omega, a]
      exact List.mem_singleton.mpr rfl
  · rename_i p q e
    rw [e] at h
    cases h with
    | cons a h =>
      cases h with
      | cons b h =>
        cases h
        rename_i z y
        have p1 := pos a
        have p2 := pos b
        have es : 1 + sumZ [z, y] = 1 + (z.1 + (y.1 + 0)) := rfl
        refine List.mem_flatMap.mpr ⟨z.1 - 1, List.mem_range.mpr (by omega), ?_⟩
        rw [show z.1 - 1 + 1 = z.1 from by omega, show 1 + sumZ [z, y] - 1 - z.1 = y.1 from by omega, a, b]
        exact List.mem_singleton.mpr rfl
  · rename_i h1 h2' h3
    match e : m.pt, h2 with
    | [], _ => exact absurd e h1
    | [p], _ => exact absurd e (h2' p)
    | [p, q], _ => exact absurd e (h3 p q)
theorem ps_mem {B : Nat → List Nat → Option PyData} {ms : List MRow} {n : Nat} {s : List Nat} {t : PyData} : t ∈ ofS s (Ps B ms n) ↔ ∃ m ∈ ms, m.so = s ∧ t ∈ Cs B n m := by
  unfold ofS Ps
  constructor
  · intro h
    obtain ⟨e, he, rfl⟩ := List.mem_map.mp h
    obtain ⟨he, es⟩ := List.mem_filter.mp he
    obtain ⟨m, hm, h⟩ := List.mem_flatMap.mp he
    obtain ⟨t, ht, rfl⟩ := List.mem_map.mp h
    exact ⟨m, hm, of_decide_eq_true es, ht⟩
  · rintro ⟨m, hm, rfl, ht⟩
    exact List.mem_map.mpr ⟨(m.so, t), List.mem_filter.mpr ⟨List.mem_flatMap.mpr ⟨m, hm, List.mem_map.mpr ⟨t, ht, rfl⟩⟩, decide_eq_true rfl⟩, rfl⟩
/-- a tree in the table is made so -/
theorem bs_of {ms : List MRow} {n : Nat} {s : List Nat} {t : PyData} (h : Bs ms n s = some t) : ∃ m ∈ ms, m.so = s ∧ ∃ zs, PkL (Bs ms) m.pt zs ∧ n = 1 + sumZ zs ∧ t = trD m.nm (zs.map (·.2)) := by
  cases n with
  | zero => cases h
  | succ n =>
    rw [Bs_is] at h
    obtain ⟨m, hm, e, ht⟩ := ps_mem.mp (minO_some h).1
    exact ⟨m, hm, e, cs_of ht (by omega)⟩
theorem pk_get {α β : Type} {F : α → β → Prop} : ∀ {xs : List α} {ys : List β}, Paired F xs ys → ∀ y ∈ ys, ∃ x ∈ xs, F x y
  | _, _, .nil, y, h => nomatch h
  | _, _, .cons a r, y, h => by
    rcases List.mem_cons.mp h with rfl | h
    · exact ⟨_, List.mem_cons_self, a⟩
    · obtain ⟨x, hx, f⟩ := pk_get r y h
      exact ⟨x, List.mem_cons_of_mem _ hx, f⟩
theorem pk_get1 {α β : Type} {F : α → β → Prop} : ∀ {xs : List α} {ys : List β}, Paired F xs ys → ∀ x ∈ xs, ∃ y ∈ ys, F x y
  | _, _, .nil, y, h => nomatch h
  | _, _, .cons a r, y, h => by
    rcases List.mem_cons.mp h with rfl | h
    · exact ⟨_, List.mem_cons_self, a⟩
    · obtain ⟨x, hx, f⟩ := pk_get1 r y h
      exact ⟨x, List.mem_cons_of_mem _ hx, f⟩
theorem pk_len {α β : Type} {F : α → β → Prop} : ∀ {xs : List α} {ys : List β}, Paired F xs ys → xs.length = ys.length
  | _, _, .nil => rfl
  | _, _, .cons _ r => congrArg (· + 1) (pk_len r)
theorem sumZ_le {zs : List (Nat × PyData)} {z : Nat × PyData} (h : z ∈ zs) : z.1 ≤ sumZ zs := by
  unfold sumZ
  induction zs with
  | nil => cases h
  | cons y zs ih =>
    rw [List.map_cons, List.sum_cons]
    rcases List.mem_cons.mp h with rfl | h
    · omega
    · have := ih h
      omega
theorem bs_tr {ms : List MRow} (h2 : ∀ m ∈ ms, m.pt.length ≤ 2) : ∀ (n : Nat) {s : List Nat} {t : PyData}, Bs ms n s = some t → TrF n t := fun n => by
  induction n using Nat.strongRecOn with
  | _ n ih =>
    intro s t h
    obtain ⟨m, hm, e, zs, pk, en, rfl⟩ := bs_of h
    cases n with
    | zero => omega
    | succ n =>
      refine ⟨m.nm, _, rfl, ?_, fun p hp => ?_⟩
      · rw [List.length_map, ← pk_len pk]
        exact h2 m hm
      · obtain ⟨z, hz, rfl⟩ := List.mem_map.mp hp
        obtain ⟨x, _, hx⟩ := pk_get pk z hz
        have := sumZ_le hz
        exact (ih z.1 (by omega) hx).mono (by omega)
/-! ### least trees, sort by sort -/
structure LE where
  s : List Nat
  k : Nat
  t : PyData
def Lk (L : List LE) (s : List Nat) : Option (Nat × PyData) := (L.find? fun e => decide (e.s = s)).map fun e => (e.k, e.t)
theorem lk_some {L : List LE} {s : List Nat} {z : Nat × PyData} (h : Lk L s = some z) : ∃ e ∈ L, e.s = s ∧ e.k = z.1 ∧ e.t = z.2 := by
  unfold Lk at h
  cases e : L.find? fun e => decide (e.s = s) with
  | none => rw [e] at h; cases h
  | some e' =>
    rw [e] at h
    have h1 := List.find?_some e
    cases h
    exact ⟨e', List.mem_of_find?_eq_some e, of_decide_eq_true h1, rfl, rfl⟩
theorem lk_none {L : List LE} {s : List Nat} (h : Lk L s = none) : s ∉ L.map LE.s := fun hm => by
  obtain ⟨e, he, rfl⟩ := List.mem_map.mp hm
  unfold Lk at h
  rw [Option.map_eq_none_iff, List.find?_eq_none] at h
  exact h e he (decide_eq_true rfl)
theorem lk_no {L : List LE} {s : List Nat} (h : s ∉ L.map LE.s) : Lk L s = none := by
  unfold Lk
  rw [Option.map_eq_none_iff, List.find?_eq_none]
  intro e he z
  exact h (List.mem_map.mpr ⟨e, he, of_decide_eq_true z⟩)
def allK (L : List LE) : List (List Nat) → Option (List (Nat × PyData))
  | [] => some []
  | p :: ps => match Lk L p, allK L ps with
    | some z, some zs => some (z :: zs)
    | _, _ => none
theorem allK_pk {L : List LE} : ∀ {ps : List (List Nat)} {zs : List (Nat × PyData)}, allK L ps = some zs → Paired (fun p z => Lk L p = some z) ps zs
  | [], zs, h => by
    cases h
    exact .nil
  | p :: ps, zs, h => by
    unfold allK at h
    split at h
    · rename_i z zs' e1 e2
      cases h
      exact .cons e1 (allK_pk e2)
    · cases h
theorem allK_of {L : List LE} : ∀ {ps : List (List Nat)} {zs : List (Nat × PyData)}, Paired (fun p z => Lk L p = some z) ps zs → allK L ps = some zs
  | _, _, .nil => rfl
  | _, _, .cons a r => by
    unfold allK
    rw [a, allK_of r]
def fnd (L : List LE) (m : MRow) : Option LE := if (Lk L m.so).isNone then (allK L m.pt).map fun zs => ⟨m.so, 1 + sumZ zs, trD m.nm (zs.map (·.2))⟩ else none
def founds (L : List LE) (ms : List MRow) : List LE := ms.filterMap (fnd L)
def LE.d (e : LE) : PyData := .tuple [.int (e.k : Nat), e.t, strD e.s]
structure LInv (ms : List MRow) (L : List LE) : Prop where
  nd : (L.map LE.s).Nodup
  ks : ∀ e ∈ L, ∃ m ∈ ms, m.so = e.s
  ok : ∀ e ∈ L, Bs ms e.k e.s = some e.t ∧ (∀ j < e.k, Bs ms j e.s = none) ∧ e.k + 1 ≤ 2 ^ L.length
theorem LInv.nil (ms : List MRow) : LInv ms [] := ⟨List.nodup_nil, fun e he => (nomatch he), fun e he => nomatch he⟩
theorem fnd_some {L : List LE} {m : MRow} {e : LE} (h : fnd L m = some e) : Lk L m.so = none ∧ ∃ zs, allK L m.pt = some zs ∧ e = ⟨m.so, 1 + sumZ zs, trD m.nm (zs.map (·.2))⟩ := by
  unfold fnd at h
  split at h
  · rename_i h1
    cases h2 : allK L m.pt with
    | none => rw [h2] at h; cases h
    | some zs =>
      rw [h2] at h
      cases h
      exact ⟨Option.isNone_iff_eq_none.mp h1, zs, rfl, rfl⟩
  · cases h
theorem fnd_of {L : List LE} {m : MRow} {zs : List (Nat × PyData)} (h : Lk L m.so = none) (h2 : allK L m.pt = some zs) : fnd L m = some ⟨m.so, 1 + sumZ zs, trD m.nm (zs.map (·.2))⟩ := by
  unfold fnd
  rw [h, h2]
  rfl
section
variable {ms : List MRow} {L : List LE}
/-- parts that the table knows are known already, and with no more nodes -/
theorem known (I : LInv ms L) {pt : List (List Nat)} {zs : List (Nat × PyData)} (pk : PkL (Bs ms) pt zs) (h : ∀ z ∈ zs, ∀ p ∈ pt, Bs ms z.1 p = some z.2 → Lk L p ≠ none) : ∃ ys, allK L pt = some ys ∧ sumZ ys ≤ sumZ zs ∧ (sumZ ys = sumZ zs → ys = zs) := by
  unfold PkL at pk
  induction pk with
  | nil => exact ⟨[], rfl, Nat.le_refl _, fun _ => rfl⟩
  | @cons p z pt zs a r ih =>
    obtain ⟨ys, e1, e2, e3⟩ := ih fun z' hz' p' hp' => h z' (List.mem_cons_of_mem _ hz') p' (List.mem_cons_of_mem _ hp')
    cases hl : Lk L p with
    | none => exact absurd hl (h z List.mem_cons_self p List.mem_cons_self a)
    | some y =>
      obtain ⟨e, he, es, ek, et⟩ := lk_some hl
      obtain ⟨o1, o2, _⟩ := I.ok e he
      rw [es, ek] at o2
      rw [es, ek, et] at o1
      have le : y.1 ≤ z.1 := by
        rcases Nat.lt_or_ge z.1 y.1 with hlt | hge
        · rw [o2 z.1 hlt] at a
          cases a
        · exact hge
      refine ⟨y :: ys, by unfold allK; rw [hl, e1], ?_, fun hs => ?_⟩
      · unfold sumZ at e2 ⊢
        rw [List.map_cons, List.sum_cons, List.map_cons, List.sum_cons]
        omega
      · unfold sumZ at e2 e3 hs
        rw [List.map_cons, List.sum_cons, List.map_cons, List.sum_cons] at hs
        have q1 : y.1 = z.1 := by omega
        rw [e3 (by omega)]
        rw [q1] at o1
        rw [o1] at a
        have q2 : y.2 = z.2 := Option.some.inj a
        rw [show y = z from Prod.ext q1 q2]
/-- no tree of a sort that isn't known has fewer nodes than what is found next -/
theorem none_below (I : LInv ms L) {N : Nat} (hN : ∀ e ∈ founds L ms, N ≤ e.k) : ∀ (j : Nat), j < N → ∀ s, Lk L s = none → Bs ms j s = none := fun j => by
  induction j using Nat.strongRecOn with
  | _ j ih =>
    intro hj s hs
    cases h : Bs ms j s with
    | none => rfl
    | some t =>
      exfalso
      obtain ⟨m, hm, rfl, zs, pk, en, _⟩ := bs_of h
      obtain ⟨ys, e1, e2, _⟩ := known I pk fun z hz p hp hb hl => by
        have := sumZ_le hz
        rw [ih z.1 (by omega) (by omega) p hl] at hb
        cases hb
      have := hN _ (List.mem_filterMap.mpr ⟨m, hm, fnd_of hs e1⟩)
      have : N ≤ 1 + sumZ ys := this
      omega
theorem LInv.pk (I : LInv ms L) : ∀ {pt : List (List Nat)} {zs : List (Nat × PyData)}, Paired (fun p z => Lk L p = some z) pt zs → PkL (Bs ms) pt zs
  | _, _, .nil => .nil
  | _, _, .cons a r => by
    obtain ⟨e, he, es, ek, et⟩ := lk_some a
    have := (I.ok e he).1
    rw [es, ek, et] at this
    exact .cons this (I.pk r)
theorem LInv.done (I : LInv ms L) (h : founds L ms = []) (s : List Nat) (hs : Lk L s = none) (j : Nat) : Bs ms j s = none := none_below I (N := j + 1) (fun e he => by rw [h] at he; cases he) j (by omega) s hs
theorem LInv.step (I : LInv ms L) (h2 : ∀ m ∈ ms, m.pt.length ≤ 2) {e : LE} (he : e ∈ founds L ms) (hk : ∀ e' ∈ founds L ms, e.k ≤ e'.k) (ht : ∀ e' ∈ founds L ms, e'.s = e.s → e'.k = e.k → PySem.W.dataLt e'.t e.t = false) : LInv ms (L ++ [e]) := by
  obtain ⟨m, hm, hf⟩ := List.mem_filterMap.mp he
  obtain ⟨hl, zs, hz, rfl⟩ := fnd_some hf
  have nb := none_below I hk
  have pk0 := allK_pk hz
  have pk : PkL (Bs ms) m.pt zs := I.pk pk0
  have hB : Bs ms (1 + sumZ zs) m.so = some (trD m.nm (zs.map (·.2))) := by
    rw [Nat.add_comm, Bs_is, Nat.add_comm (sumZ zs)]
    have mem := ps_mem.mpr ⟨m, hm, rfl, cs_in (Bs_z ms) (h2 m hm) pk⟩
    have tr : ∀ y ∈ ofS m.so (Ps (Bs ms) ms (1 + sumZ zs)), TrF (1 + sumZ zs) y := fun y hy => by
      obtain ⟨m', hm', _, hc⟩ := ps_mem.mp hy
      obtain ⟨zs', pk', en', rfl⟩ := cs_of hc (by omega)
      rw [Nat.add_comm]
      refine ⟨m'.nm, _, rfl, by rw [List.length_map, ← pk_len pk']; exact h2 m' hm', fun p hp => ?_⟩
      obtain ⟨z, hz', rfl⟩ := List.mem_map.mp hp
      obtain ⟨x, _, hx⟩ := pk_get pk' z hz'
      have := sumZ_le hz'
      exact (bs_tr h2 z.1 hx).mono (by omega)
    refine minO_is mem (fun y hy => ?_) (fun y hy => ⟨(tr y hy).alike (tr _ mem), (tr y hy).pur⟩) (tr _ mem).pur
    obtain ⟨m', hm', es', hc⟩ := ps_mem.mp hy
    obtain ⟨zs', pk', en', rfl⟩ := cs_of hc (by omega)
    obtain ⟨ys, e1, e2, e3⟩ := known I pk' fun z hz' p hp hb hl' => by
      have := sumZ_le hz'
      rw [nb z.1 (by show z.1 < 1 + sumZ zs; omega) p hl'] at hb
      cases hb
    have hin : (⟨m'.so, 1 + sumZ ys, trD m'.nm (ys.map (·.2))⟩ : LE) ∈ founds L ms := List.mem_filterMap.mpr ⟨m', hm', fnd_of (by rw [es']; exact hl) e1⟩
    have h1 : 1 + sumZ zs ≤ 1 + sumZ ys := hk _ hin
    obtain rfl := e3 (by omega)
    exact ht _ hin es' (by show 1 + sumZ ys = 1 + sumZ zs; omega)
  refine ⟨?_, fun e he' => ?_, fun e he' => ?_⟩
  · rw [List.map_append, List.nodup_append]
    refine ⟨I.nd, List.nodup_cons.mpr ⟨List.not_mem_nil, List.nodup_nil⟩, fun a ha b hb => ?_⟩
    rw [List.mem_singleton.mp hb]
    exact fun z => lk_none hl (by rw [z] at ha; exact ha)
  · rcases List.mem_append.mp he' with h | h
    · exact I.ks e h
    · rw [List.mem_singleton.mp h]
      exact ⟨m, hm, rfl⟩
  · have hlen : (L ++ [(⟨m.so, 1 + sumZ zs, trD m.nm (zs.map (·.2))⟩ : LE)]).length = L.length + 1 := by rw [List.length_append]; rfl
    rw [hlen, Nat.pow_succ]
    rcases List.mem_append.mp he' with h | h
    · obtain ⟨a, b, c⟩ := I.ok e h
      exact ⟨a, b, by omega⟩
    · rw [List.mem_singleton.mp h]
      refine ⟨hB, fun j hj => nb j hj _ hl, ?_⟩
      have bound : ∀ z ∈ zs, z.1 + 1 ≤ 2 ^ L.length := fun z hz' => by
        obtain ⟨x, _, hx⟩ := pk_get pk0 z hz'
        obtain ⟨e, he, _, ek, _⟩ := lk_some hx
        have := (I.ok e he).2.2
        omega
      have l2 : zs.length ≤ 2 := by
        rw [← pk_len pk0]
        exact h2 m hm
      show 1 + sumZ zs + 1 ≤ 2 ^ L.length * 2
      have p1 : 1 ≤ 2 ^ L.length := Nat.one_le_two_pow
      match zs, l2, bound with
      | [], _, _ =>
        show 1 + 0 + 1 ≤ _
        omega
      | [z], _, bound =>
        have := bound z List.mem_cons_self
        show 1 + (z.1 + 0) + 1 ≤ _
        omega
      | [z, y], _, bound =>
        have a1 := bound z List.mem_cons_self
        have a2 := bound y (List.mem_cons_of_mem _ List.mem_cons_self)
        show 1 + (z.1 + (y.1 + 0)) + 1 ≤ _
        omega
end
/-! ### a list of data made over a list -/
theorem immAll_of2 : ∀ {ds : List PyData}, (∀ d ∈ ds, imm d = true) → immAll ds = true
  | [], _ => rfl
  | d :: ds, h => by
    show (imm d && immAll ds) = true
    rw [h d List.mem_cons_self, immAll_of2 fun a ha => h a (List.mem_cons_of_mem _ ha)]
    rfl
theorem lc_dat {K : PySem.W.Frag} {L D : Addr} {α : Type} {xs : List α} {fv : α → V} {f : α → PyData} {p : α → Bool} {g : TG} {tt : TT} {te : TE} {vs : List Nat} {σ : L2.St} {Y : Hp} {Qd : Hp → Prop} (hL : Y L = some (.lst (xs.map fv))) (hi : ∀ x ∈ xs, imm (f x) = true) (hl : xs.length ≤ 500) (nD : Y D = none)
    (hs : ∀ (x : α) (U : Hp) (X : VK) (F : Hp → Prop), x ∈ xs → Same Y U → (p x = true → ∀ y H4, Same U H4 → Dp K H4 y (f x) → X y H4) → (p x = false → F U) → g (fv x) (wipe σ vs) U fun σ2 H2 => wipe σ2 vs = wipe σ vs ∧ tt σ2 H2 fun b H3 => if b = true then te σ2 H3 X else F H3)
    (hd : ∀ (U : Hp) (es : List V), Same Y U → U D = some (.lst es) → DpAll K U es ((xs.filter p).map f) → Qd U) :
    ∃ W : Nat → Nat → Hp → Prop, (∃ m, W 0 m (upd Y D (.lst []))) ∧ ∀ i m H, W i m H →
      ((Itl K L).stop i H ∧ Qd H) ∨ ((Itl K L).go i H ∧ ∃ Nx : Hp → Prop, (∀ H', Nx H' → ∃ m', m' < m ∧ W (i + 1) m' H') ∧ ∀ x H', (Itl K L).yld i H x H' → g x (wipe σ vs) H' fun σ2 H2 => wipe σ2 vs = wipe σ vs ∧ tt σ2 H2 fun b H3 =>
        if b = true then te σ2 H3 fun y H4 => ∃ acc, H4 D = some (.lst acc) ∧ acc.length < sizeLine ∧ Nx (upd H4 D (.lst (acc ++ [y]))) else Nx H3) := by
  refine lc_list (K := K) (a := L) (xs := xs.map fv) (fun j U => Same Y U ∧ ∃ es : List V, U D = some (.lst es) ∧ DpAll K U es (((xs.take j).filter p).map f)) ⟨same_upd nD, [], upd_same, .nil⟩ (fun j U _ h => SqL.of (h.1 _ _ hL)) ?_ ?_
  · rintro j v U hx ⟨sU, es, hD, hp⟩
    rw [List.getElem?_map] at hx
    obtain ⟨x, hx2, rfl⟩ : ∃ x, xs[j]? = some x ∧ v = fv x := by
      cases h : xs[j]? with
      | none => rw [h] at hx; cases hx
      | some e => rw [h] at hx; exact ⟨e, rfl, (Option.some.inj hx).symm⟩
    have hj : j < xs.length := (List.getElem?_eq_some_iff.mp hx2).1
    have tk : xs.take (j + 1) = xs.take j ++ [x] := by rw [List.take_add_one, hx2]; rfl
    have le := dpAll_len hp
    have : ((xs.take j).filter p).length ≤ j := Nat.le_trans (List.length_filter_le _ _) (by rw [List.length_take]; omega)
    rw [List.length_map] at le
    refine hs x U _ _ (List.mem_of_getElem? hx2) sU (fun px y H4 s4 hy => ?_) (fun px => ?_)
    · have hD4 := s4 _ _ hD
      refine ⟨_, hD4, small1000 (by omega), Same.at_ (sU.trans s4) nD, _, upd_same, ?_⟩
      have kk : KeepT H4 (upd H4 D (.lst (es ++ [y]))) := KeepT.at_ hD4 lst_no
      rw [tk, List.filter_append, List.map_append, List.filter_cons_of_pos px]
      have a1 := dpAll_imm ((KeepT.of s4).trans kk) hp (immAll_of2 fun d hd => by
        obtain ⟨z, hz, rfl⟩ := List.mem_map.mp hd
        exact hi z (List.mem_of_mem_take (List.mem_filter.mp hz).1))
      exact dpAll_appI a1 (.cons (dp_imm kk hy (hi x (List.mem_of_getElem? hx2))) .nil)
    · refine ⟨sU, es, hD, ?_⟩
      rw [tk, List.filter_append, List.filter_cons_of_neg (by rw [px]; decide), List.filter_nil, List.append_nil]
      exact hp
  · rintro U ⟨sU, es, hD, hp⟩
    rw [List.length_map, List.take_length] at hp
    exact hd U es sU hD hp
/-- the same over a tuple -/
theorem lc_datT {K : PySem.W.Frag} {L D : Addr} {α : Type} {xs : List α} {fv : α → V} {f : α → PyData} {p : α → Bool} {g : TG} {tt : TT} {te : TE} {vs : List Nat} {σ : L2.St} {Y : Hp} {Qd : Hp → Prop} (hL : SqT K Y L (xs.map fv)) (hi : ∀ x ∈ xs, imm (f x) = true) (hl : xs.length ≤ 500) (nD : Y D = none)
    (hs : ∀ (x : α) (U : Hp) (X : VK) (F : Hp → Prop), x ∈ xs → Same Y U → (p x = true → ∀ y H4, Same U H4 → Dp K H4 y (f x) → X y H4) → (p x = false → F U) → g (fv x) (wipe σ vs) U fun σ2 H2 => wipe σ2 vs = wipe σ vs ∧ tt σ2 H2 fun b H3 => if b = true then te σ2 H3 X else F H3)
    (hd : ∀ (U : Hp) (es : List V), Same Y U → U D = some (.lst es) → DpAll K U es ((xs.filter p).map f) → Qd U) :
    ∃ W : Nat → Nat → Hp → Prop, (∃ m, W 0 m (upd Y D (.lst []))) ∧ ∀ i m H, W i m H →
      ((Itt K L).stop i H ∧ Qd H) ∨ ((Itt K L).go i H ∧ ∃ Nx : Hp → Prop, (∀ H', Nx H' → ∃ m', m' < m ∧ W (i + 1) m' H') ∧ ∀ x H', (Itt K L).yld i H x H' → g x (wipe σ vs) H' fun σ2 H2 => wipe σ2 vs = wipe σ vs ∧ tt σ2 H2 fun b H3 =>
        if b = true then te σ2 H3 fun y H4 => ∃ acc, H4 D = some (.lst acc) ∧ acc.length < sizeLine ∧ Nx (upd H4 D (.lst (acc ++ [y]))) else Nx H3) := by
  refine lc_it (walk_tup (K := K) (a := L) (xs := xs.map fv)) (fun j U => Same Y U ∧ ∃ es : List V, U D = some (.lst es) ∧ DpAll K U es (((xs.take j).filter p).map f)) ⟨same_upd nD, [], upd_same, .nil⟩ (fun j U _ h => sqT_s h.1 hL) ?_ ?_
  · rintro j v U U' hx ⟨sU, es, hD, hp⟩ ⟨rfl, hv⟩
    have hv : (xs.map fv)[j]? = some v := hv
    rw [List.getElem?_map] at hv
    obtain ⟨x, hx2, rfl⟩ : ∃ x, xs[j]? = some x ∧ v = fv x := by
      cases h : xs[j]? with
      | none => rw [h] at hv; cases hv
      | some e => rw [h] at hv; exact ⟨e, rfl, (Option.some.inj hv).symm⟩
    have hj : j < xs.length := (List.getElem?_eq_some_iff.mp hx2).1
    have tk : xs.take (j + 1) = xs.take j ++ [x] := by rw [List.take_add_one, hx2]; rfl
    have le := dpAll_len hp
    have : ((xs.take j).filter p).length ≤ j := Nat.le_trans (List.length_filter_le _ _) (by rw [List.length_take]; omega)
    rw [List.length_map] at le
    refine hs x U' _ _ (List.mem_of_getElem? hx2) sU (fun px y H4 s4 hy => ?_) (fun px => ?_)
    · have hD4 := s4 _ _ hD
      refine ⟨_, hD4, small1000 (by omega), Same.at_ (sU.trans s4) nD, _, upd_same, ?_⟩
      have kk : KeepT H4 (upd H4 D (.lst (es ++ [y]))) := KeepT.at_ hD4 lst_no
      rw [tk, List.filter_append, List.map_append, List.filter_cons_of_pos px]
      have a1 := dpAll_imm ((KeepT.of s4).trans kk) hp (immAll_of2 fun d hd => by
        obtain ⟨z, hz, rfl⟩ := List.mem_map.mp hd
        exact hi z (List.mem_of_mem_take (List.mem_filter.mp hz).1))
      exact dpAll_appI a1 (.cons (dp_imm kk hy (hi x (List.mem_of_getElem? hx2))) .nil)
    · refine ⟨sU, es, hD, ?_⟩
      rw [tk, List.filter_append, List.filter_cons_of_neg (by rw [px]; decide), List.filter_nil, List.append_nil]
      exact hp
  · rintro U ⟨sU, es, hD, hp⟩
    rw [List.length_map, List.take_length] at hp
    exact hd U es sU hD hp
theorem dpAll_ints {K : PySem.W.Frag} {H : Hp} : ∀ {vs : List V} {ns : List Int}, DpAll K H vs (ns.map PyData.int) → vs = ns.map V.int
  | _, [], .nil => rfl
  | _, _ :: _, .cons h a => by
    cases h
    rw [dpAll_ints a]
    rfl
theorem dpAll_bools {K : PySem.W.Frag} {H : Hp} : ∀ {vs : List V} {ns : List Bool}, DpAll K H vs (ns.map PyData.bool) → vs = ns.map V.bl
  | _, [], .nil => rfl
  | _, _ :: _, .cons h a => by
    cases h
    rw [dpAll_bools a]
    rfl
/-! ### the methods of a grammar that tell its rows -/
theorem paired_get {α β : Type} {R : α → β → Prop} : ∀ {xs : List α} {ys : List β}, Paired R xs ys → ∀ {i : Nat} {x : α}, xs[i]? = some x → ∃ y, ys[i]? = some y ∧ R x y
  | _, _, .nil, i, x, h => by cases h
  | _, _, .cons a r, 0, x, h => by
    cases h
    exact ⟨_, rfl, a⟩
  | _, _, .cons a r, i + 1, x, h => paired_get r (i := i) h
abbrev s_Gs : Stmt := (inClass (top 53) 1)
abbrev N_Gs : List Str := ["self", "sort", "downs", "ups"]
theorem sc_Gs : FnScope N_Gs ["self"] (defScope s_Gs) := ⟨rfl, rfl, rfl, by decide +kernel, rfl, by decide +kernel, by decide +kernel⟩
abbrev s_Gm : Stmt := (inClass (top 53) 2)
abbrev N_Gm : List Str := ["self", "making", "sort", "parts"]
theorem sc_Gm : FnScope N_Gm ["self"] (defScope s_Gm) := ⟨rfl, rfl, rfl, by decide +kernel, rfl, by decide +kernel, by decide +kernel⟩
abbrev s_Gr : Stmt := (inClass (top 53) 3)
abbrev N_Gr : List Str := ["self", "making", "target", "op", "operands"]
theorem sc_Gr : FnScope N_Gr ["self"] (defScope s_Gr) := ⟨rfl, rfl, rfl, by decide +kernel, rfl, by decide +kernel, by decide +kernel⟩
def spRowsOf (K : PySem.W.Frag) (P : Program) (w : World) (C : Addr) (f : List SRow → List MRow → List RRow → List PyData) : Sp := fun vs H Q _ => ∃ (Z : Hp) (x : Addr) (rs : List SRow) (ms : List MRow) (ru : List RRow) (roof : Nat), vs = [.ref x] ∧ GrOk K P w C Z H x rs ms ru roof ∧ rs.length ≤ 4 ∧ ms.length ≤ 8 ∧ ru.length ≤ 240 ∧
  ∀ (H' : Hp) (l : Addr) (es : List V), Same H H' → H l = none → H' l = some (.lst es) → DpAll K H' es (f rs ms ru) → Q (.ref l) H'
section
variable {K : PySem.W.Frag} {H H' : Hp}
mutual
theorem dp_sq (k : ∀ a xs, SqT K H a xs → SqT K H' a xs) : ∀ {v : V} {d : PyData}, Dp K H v d → imm d = true → Dp K H' v d
  | _, _, .non, _ => .non
  | _, _, .bl b, _ => .bl b
  | _, _, .int i, _ => .int i
  | _, _, .str x, _ => .str x
  | _, _, .lst h a, i => nomatch (show (false : Bool) = true from i)
  | _, _, .tup h a, i => .tup (k _ _ h) (dpAll_sq k a i)
theorem dpAll_sq (k : ∀ a xs, SqT K H a xs → SqT K H' a xs) : ∀ {vs : List V} {ds : List PyData}, DpAll K H vs ds → immAll ds = true → DpAll K H' vs ds
  | _, _, .nil, _ => .nil
  | _, _, .cons h a, i => .cons (dp_sq k h (Bool.and_eq_true_iff.mp i).1) (dpAll_sq k a (Bool.and_eq_true_iff.mp i).2)
end
theorem unlock_sq {d : Addr} {od : Obj} {u o : HO} (hd : H d = some (.frz od u)) (hu : ∀ xs, u ≠ .tup xs) : ∀ a xs, SqT K H a xs → SqT K (upd H d o) a xs := by
  intro a xs h
  have ne : ∀ {o'}, H a = some o' → o' ≠ .frz od u → a ≠ d := fun e n z => by
    rw [z, hd] at e
    exact n (Option.some.inj e).symm
  rcases h with (h | ⟨o', h⟩) | h
  · exact .inl (.inl (by rw [upd_ne (ne h (fun z => by cases z))]; exact h))
  · exact .inl (.inr ⟨o', by rw [upd_ne (ne h (fun z => by cases z; exact hu _ rfl))]; exact h⟩)
  · exact .inr h
end
theorem dn_no {P : Program} {w : World} {a : Addr} {kvs : List NE} : ¬ TupO (dnO P w a kvs) := by
  rintro (⟨ys, z⟩ | ⟨o, v, z⟩)
  · have z' : HO.ext _ = HO.tup ys := z
    cases z'
  · have z' : HO.ext _ = HO.frz o v := z
    cases z'
theorem unlock_same {H Y : Hp} {d : Addr} {u : HO} {od : Obj} (hd : H d = some u) (s : Same (upd H d (.frz od u)) Y) : Same H (upd Y d u) := fun b o hb => by
  by_cases z : b = d
  · rw [z, hd] at hb
    rw [z, upd_same]
    exact hb
  · rw [upd_ne z]
    exact s b o (by rw [upd_ne z]; exact hb)
theorem dp_lock {K : PySem.W.Frag} {H : Hp} {d : Addr} {u : HO} {od : Obj} (hd : H d = some u) (nu : ¬ TupO u) {v : V} {t : PyData} (h : Dp K H v t) (i : imm t = true) : Dp K (upd H d (.frz od u)) v t := dp_imm (KeepT.at_ hd nu) h i
theorem two_of {K : PySem.W.Frag} {H : Hp} {v : V} {d1 d2 : PyData} (h : Dp K H v (.tuple [d1, d2])) : ∃ q v1 v2, v = .ref q ∧ SqT K H q [v1, v2] ∧ Dp K H v1 d1 ∧ Dp K H v2 d2 := by
  cases h with
  | tup hq hA =>
    cases hA with
    | cons a1 hA =>
      cases hA with
      | cons a2 hA =>
        cases hA
        exact ⟨_, _, _, rfl, hq, a1, a2⟩
section
variable {P : Program} {w : World} {K : PySem.W.Frag} {mg : Str → Option Value} {base : Heap} {C : Addr}
theorem ok_Gs {f : Addr} {fd : FuncData} (gc : GCls K C) (F : L2.Fun K "sorts" "Grammar.sorts" s_Gs f fd) : FnOk P w K mg base CX0 1 f fd ["self"] (spRowsOf K P w C fun rs _ _ => rs.map SRow.d) := by
  refine F.ok sc_Gs (fun vs H Q E h => ?_) (fun cdv A outer s H vs Q E hr h => ?_)
  · obtain ⟨Z, x, rs, ms, ru, roof, rfl, _⟩ := h
    rfl
  · obtain ⟨Z, x, rs, ms, ru, roof, rfl, go, l1, l2, l3, q⟩ := h
    refine ⟨_, pss_one (ps_ret (pe_lock (pe_lc (g := gTup K 2 (gCons (gName 1) (gCons (gTup K 2 (gCons (gName 2) (gCons (gName 3) gNil))) gNil))) (own := [("sort", 1), ("downs", 2), ("ups", 3)]) (by exact rfl) sc_Gs.nd (pi_items (pe_fld (pv 0) (by rfl))) (blkOk_by (own := [("sort", 1), ("downs", 2), ("ups", 3)]) (N := N_Gs) (sc := defScope s_Gs) (by decide +kernel)) (fun _ _ _ _ _ => pg_tup (n := 2) rfl (pgs_cons (pg_name (i := 1) sc_Gs.nd rfl (Or.inl rfl) (Or.inr rfl)) (pgs_cons (pg_tup (n := 2) rfl (pgs_cons (pg_name (i := 2) sc_Gs.nd rfl (Or.inl rfl) (Or.inr rfl)) (pgs_cons (pg_name (i := 3) sc_Gs.nd rfl (Or.inl rfl) (Or.inr rfl)) pgs_nil))) pgs_nil))) (fun _ _ _ _ _ => pts_nil) (fun _ _ _ _ _ => pe_tup (pa_cons (pv 1) (pa_cons (pv 2) (pa_cons (pv 3) pa_nil))))))), ?_⟩
    obtain ⟨dx, sd, md, rd, kd, rt, hx, ⟨skv, hsd, htab⟩, _⟩ := go.ex
    refine ⟨sd, .dK skv, hsd, trivial, fun od => ?_⟩
    have nxs : x ≠ sd := fun z => by
      rw [z, hsd] at hx
      cases hx
    have hx8 : (upd H sd (.frz od (.dK skv))) x = _ := (upd_ne nxs).trans hx
    have hfz : (upd H sd (.frz od (.dK skv))) sd = some (.frz od (.dK skv)) := upd_same
    refine ⟨_, rfl, x, C, dx, _, .ref sd, rfl, hx8, gc.c, gc.sort, by with_unfolding_all rfl, sd, od, skv, rfl, hfz, fun D nD => ?_⟩
    have lk : skv.length = rs.length := by
      have := htab.len
      rw [List.length_map] at this
      exact this
    refine lc_it walk_items (fun i Y => Same (upd H sd (.frz od (.dK skv))) Y ∧ ∃ us, Y D = some (.lst us) ∧ us.length = i ∧ DpAll K Y us ((rs.take i).map SRow.d))
      ⟨same_upd nD, [], upd_same, rfl, .nil⟩ (fun i Y _ h => h.1 _ _ hfz) ?_ ?_
    · rintro i v Y0 Y hi ⟨sY, us, hD, hul, hus⟩ ⟨T, xx, yy, rfl, nT, rfl, ex, ey⟩
      have ex : (skv[i]?.map fun kv => kV kv.1) = some xx := ex
      have ey : (skv[i]?.map Prod.snd) = some yy := ey
      cases hk : skv[i]? with
      | none => rw [hk] at ex; cases ex
      | some kv =>
        rw [hk] at ex ey
        cases ex
        cases ey
        obtain ⟨t, ht, ek, hv⟩ := paired_get htab hk
        rw [List.getElem?_map] at ht
        obtain ⟨r, hr', rfl⟩ : ∃ r, rs[i]? = some r ∧ t = sT r := by
          cases e : rs[i]? with
          | none => rw [e] at ht; cases ht
          | some r => rw [e] at ht; exact ⟨r, rfl, (Option.some.inj ht).symm⟩
        have sT' := same_upd (o := .tup [kV kv.1, kv.2]) nT
        have hv1 := dp_same (sY.trans sT') (dp_lock (od := od) hsd dK_no hv (sT_imm r))
        have hv1 : Dp K (upd Y0 T (.tup [kV kv.1, kv.2])) kv.2 (.tuple [.tuple (r.dn.map strD), .tuple (r.up.map strD)]) := hv1
        have hT : SqT K (upd Y0 T (.tup [kV kv.1, kv.2])) T [kV kv.1, kv.2] := SqT.of upd_same
        obtain ⟨kk, vv⟩ := kv
        have ek : kk = kS r.nm := ek
        subst ek
        have hv1 : Dp K (upd Y0 T (.tup [kV (kS r.nm), vv])) vv (.tuple [.tuple (r.dn.map strD), .tuple (r.up.map strD)]) := hv1
        have hD1 := sT' _ _ hD
        have hus1 := dpAll_same sT' hus
        have hT : SqT K (upd Y0 T (.tup [kV (kS r.nm), vv])) T [.str (SX.S r.nm), vv] := hT
        have sY1 := sY.trans sT'
        have nD1 := nD
        generalize upd Y0 T (.tup [kV (kS r.nm), vv]) = Y1 at hv1 hT hD1 hus1 sY1 ⊢
        obtain ⟨q1, v1, v2, rfl, hq, a1, a2⟩ := two_of hv1
        refine ⟨T, _, rfl, hT, rfl, _, _, rfl, _, _, rfl, ⟨q1, _, rfl, hq, rfl, _, _, rfl, _, _, rfl, rfl, rfl, ?_⟩⟩
        refine ⟨rfl, yesT ?_⟩
        refine ⟨_, rfl, _, rfl, _, rfl, by show 3 ≤ sizeLine; decide, fun p np => ?_⟩
        have sp := same_upd (o := .tup [.str (SX.S r.nm), v1, v2]) np
        have hp : SqT K (upd Y1 p (.tup [.str (SX.S r.nm), v1, v2])) p [.str (SX.S r.nm), v1, v2] := SqT.of upd_same
        generalize upd Y1 p (.tup [.str (SX.S r.nm), v1, v2]) = Y2 at sp hp ⊢
        refine ⟨us, sp _ _ hD1, small1000 (by omega), Same.at_ (sY1.trans sp) nD1, _, upd_same, by rw [List.length_append, hul]; rfl, ?_⟩
        have kk : KeepT Y2 (upd Y2 D (.lst (us ++ [.ref p]))) := KeepT.at_ (sp _ _ hD1) lst_no
        rw [List.take_add_one, hr', List.map_append]
        exact dpAll_appI (dpAll_imm kk (dpAll_same sp hus1) (immAll_map SRow.imm _)) (.cons (dp_imm kk (.tup hp (.cons (.str _) (.cons (dp_same sp a1) (.cons (dp_same sp a2) .nil)))) r.imm) .nil)
    · rintro Y ⟨sY, us, hD, hul, hus⟩
      rw [lk, List.take_length] at hus
      refine ⟨sY _ _ hfz, ?_⟩
      have nDs : D ≠ sd := fun z => by
        rw [z, hfz] at nD
        cases nD
      have sZ := unlock_same hsd sY
      refine q _ D us sZ ?_ (by rw [upd_ne nDs]; exact hD) (dpAll_sq (unlock_sq (sY _ _ hfz) (fun _ z => by cases z)) hus (immAll_map SRow.imm rs))
      cases e : H D with
      | none => rfl
      | some o => rw [upd_ne nDs, e] at nD; cases nD
theorem ok_Gm {f : Addr} {fd : FuncData} (gc : GCls K C) (F : L2.Fun K "makings" "Grammar.makings" s_Gm f fd) : FnOk P w K mg base CX0 1 f fd ["self"] (spRowsOf K P w C fun _ ms _ => ms.map MRow.d) := by
  refine F.ok sc_Gm (fun vs H Q E h => ?_) (fun cdv A outer s H vs Q E hr h => ?_)
  · obtain ⟨Z, x, rs, ms, ru, roof, rfl, _⟩ := h
    rfl
  · obtain ⟨Z, x, rs, ms, ru, roof, rfl, go, l1, l2, l3, q⟩ := h
    refine ⟨_, pss_one (ps_ret (pe_lock (pe_lc (g := gTup K 2 (gCons (gName 1) (gCons (gTup K 2 (gCons (gName 2) (gCons (gName 3) gNil))) gNil))) (own := [("making", 1), ("sort", 2), ("parts", 3)]) (by exact rfl) sc_Gm.nd (pi_items (pe_fld (pv 0) (by rfl))) (blkOk_by (own := [("making", 1), ("sort", 2), ("parts", 3)]) (N := N_Gm) (sc := defScope s_Gm) (by decide +kernel)) (fun _ _ _ _ _ => pg_tup (n := 2) rfl (pgs_cons (pg_name (i := 1) sc_Gm.nd rfl (Or.inl rfl) (Or.inr rfl)) (pgs_cons (pg_tup (n := 2) rfl (pgs_cons (pg_name (i := 2) sc_Gm.nd rfl (Or.inl rfl) (Or.inr rfl)) (pgs_cons (pg_name (i := 3) sc_Gm.nd rfl (Or.inl rfl) (Or.inr rfl)) pgs_nil))) pgs_nil))) (fun _ _ _ _ _ => pts_nil) (fun _ _ _ _ _ => pe_tup (pa_cons (pv 1) (pa_cons (pv 2) (pa_cons (pv 3) pa_nil))))))), ?_⟩
    obtain ⟨dx, _, sd, rd, kd, rt, hx, _, ⟨skv, hsd, htab⟩, _⟩ := go.ex
    refine ⟨sd, .dK skv, hsd, trivial, fun od => ?_⟩
    have nxs : x ≠ sd := fun z => by
      rw [z, hsd] at hx
      cases hx
    have hx8 : (upd H sd (.frz od (.dK skv))) x = _ := (upd_ne nxs).trans hx
    have hfz : (upd H sd (.frz od (.dK skv))) sd = some (.frz od (.dK skv)) := upd_same
    refine ⟨_, rfl, x, C, dx, _, .ref sd, rfl, hx8, gc.c, gc.making, by with_unfolding_all rfl, sd, od, skv, rfl, hfz, fun D nD => ?_⟩
    have lk : skv.length = ms.length := by
      have := htab.len
      rw [List.length_map] at this
      exact this
    refine lc_it walk_items (fun i Y => Same (upd H sd (.frz od (.dK skv))) Y ∧ ∃ us, Y D = some (.lst us) ∧ us.length = i ∧ DpAll K Y us ((ms.take i).map MRow.d))
      ⟨same_upd nD, [], upd_same, rfl, .nil⟩ (fun i Y _ h => h.1 _ _ hfz) ?_ ?_
    · rintro i v Y0 Y hi ⟨sY, us, hD, hul, hus⟩ ⟨T, xx, yy, rfl, nT, rfl, ex, ey⟩
      have ex : (skv[i]?.map fun kv => kV kv.1) = some xx := ex
      have ey : (skv[i]?.map Prod.snd) = some yy := ey
      cases hk : skv[i]? with
      | none => rw [hk] at ex; cases ex
      | some kv =>
        rw [hk] at ex ey
        cases ex
        cases ey
        obtain ⟨t, ht, ek, hv⟩ := paired_get htab hk
        rw [List.getElem?_map] at ht
        obtain ⟨r, hr', rfl⟩ : ∃ r, ms[i]? = some r ∧ t = mT r := by
          cases e : ms[i]? with
          | none => rw [e] at ht; cases ht
          | some r => rw [e] at ht; exact ⟨r, rfl, (Option.some.inj ht).symm⟩
        have sT' := same_upd (o := .tup [kV kv.1, kv.2]) nT
        have hv1 := dp_same (sY.trans sT') (dp_lock (od := od) hsd dK_no hv (mT_imm r))
        have hv1 : Dp K (upd Y0 T (.tup [kV kv.1, kv.2])) kv.2 (.tuple [strD r.so, .tuple (r.pt.map strD)]) := hv1
        have hT : SqT K (upd Y0 T (.tup [kV kv.1, kv.2])) T [kV kv.1, kv.2] := SqT.of upd_same
        obtain ⟨kk, vv⟩ := kv
        have ek : kk = kS r.nm := ek
        subst ek
        have hv1 : Dp K (upd Y0 T (.tup [kV (kS r.nm), vv])) vv (.tuple [strD r.so, .tuple (r.pt.map strD)]) := hv1
        have hD1 := sT' _ _ hD
        have hus1 := dpAll_same sT' hus
        have hT : SqT K (upd Y0 T (.tup [kV (kS r.nm), vv])) T [.str (SX.S r.nm), vv] := hT
        have sY1 := sY.trans sT'
        have nD1 := nD
        generalize upd Y0 T (.tup [kV (kS r.nm), vv]) = Y1 at hv1 hT hD1 hus1 sY1 ⊢
        obtain ⟨q1, v1, v2, rfl, hq, a1, a2⟩ := two_of hv1
        refine ⟨T, _, rfl, hT, rfl, _, _, rfl, _, _, rfl, ⟨q1, _, rfl, hq, rfl, _, _, rfl, _, _, rfl, rfl, rfl, ?_⟩⟩
        refine ⟨rfl, yesT ?_⟩
        refine ⟨_, rfl, _, rfl, _, rfl, by show 3 ≤ sizeLine; decide, fun p np => ?_⟩
        have sp := same_upd (o := .tup [.str (SX.S r.nm), v1, v2]) np
        have hp : SqT K (upd Y1 p (.tup [.str (SX.S r.nm), v1, v2])) p [.str (SX.S r.nm), v1, v2] := SqT.of upd_same
        generalize upd Y1 p (.tup [.str (SX.S r.nm), v1, v2]) = Y2 at sp hp ⊢
        refine ⟨us, sp _ _ hD1, small1000 (by omega), Same.at_ (sY1.trans sp) nD1, _, upd_same, by rw [List.length_append, hul]; rfl, ?_⟩
        have kk : KeepT Y2 (upd Y2 D (.lst (us ++ [.ref p]))) := KeepT.at_ (sp _ _ hD1) lst_no
        rw [List.take_add_one, hr', List.map_append]
        exact dpAll_appI (dpAll_imm kk (dpAll_same sp hus1) (immAll_map MRow.imm _)) (.cons (dp_imm kk (.tup hp (.cons (.str _) (.cons (dp_same sp a1) (.cons (dp_same sp a2) .nil)))) r.imm) .nil)
    · rintro Y ⟨sY, us, hD, hul, hus⟩
      rw [lk, List.take_length] at hus
      refine ⟨sY _ _ hfz, ?_⟩
      have nDs : D ≠ sd := fun z => by
        rw [z, hfz] at nD
        cases nD
      have sZ := unlock_same hsd sY
      refine q _ D us sZ ?_ (by rw [upd_ne nDs]; exact hD) (dpAll_sq (unlock_sq (sY _ _ hfz) (fun _ z => by cases z)) hus (immAll_map MRow.imm ms))
      cases e : H D with
      | none => rfl
      | some o => rw [upd_ne nDs, e] at nD; cases nD
theorem ok_Gr {f : Addr} {fd : FuncData} (gc : GCls K C) (F : L2.Fun K "rules" "Grammar.rules" s_Gr f fd) : FnOk P w K mg base CX0 1 f fd ["self"] (spRowsOf K P w C fun _ _ ru => ru.map RRow.d) := by
  refine F.ok sc_Gr (fun vs H Q E h => ?_) (fun cdv A outer s H vs Q E hr h => ?_)
  · obtain ⟨Z, x, rs, ms, ru, roof, rfl, _⟩ := h
    rfl
  · obtain ⟨Z, x, rs, ms, ru, roof, rfl, go, l1, l2, l3, q⟩ := h
    refine ⟨_, pss_one (ps_ret (pe_lock (pe_lc (g := gTup K 2 (gCons (gTup K 2 (gCons (gName 1) (gCons (gName 2) gNil))) (gCons (gTup K 2 (gCons (gName 3) (gCons (gName 4) gNil))) gNil))) (own := [("making", 1), ("target", 2), ("op", 3), ("operands", 4)]) (by exact rfl) sc_Gr.nd (pi_itemsN (pe_fld (pv 0) (by rfl))) (blkOk_by (own := [("making", 1), ("target", 2), ("op", 3), ("operands", 4)]) (N := N_Gr) (sc := defScope s_Gr) (by decide +kernel)) (fun _ _ _ _ _ => pg_tup (n := 2) rfl (pgs_cons (pg_tup (n := 2) rfl (pgs_cons (pg_name (i := 1) sc_Gr.nd rfl (Or.inl rfl) (Or.inr rfl)) (pgs_cons (pg_name (i := 2) sc_Gr.nd rfl (Or.inl rfl) (Or.inr rfl)) pgs_nil))) (pgs_cons (pg_tup (n := 2) rfl (pgs_cons (pg_name (i := 3) sc_Gr.nd rfl (Or.inl rfl) (Or.inr rfl)) (pgs_cons (pg_name (i := 4) sc_Gr.nd rfl (Or.inl rfl) (Or.inr rfl)) pgs_nil))) pgs_nil))) (fun _ _ _ _ _ => pts_nil) (fun _ _ _ _ _ => pe_tup (pa_cons (pv 1) (pa_cons (pv 2) (pa_cons (pv 3) (pa_cons (pv 4) pa_nil)))))))), ?_⟩
    obtain ⟨dx, _, _, sd, kd, rt, hx, _, _, ⟨skv, hsd, htab⟩, _⟩ := go.ex
    refine ⟨sd, dnO P w sd skv, hsd, trivial, fun od => ?_⟩
    have nxs : x ≠ sd := fun z => by
      rw [z, hsd] at hx
      cases hx
    have hx8 : (upd H sd (.frz od (dnO P w sd skv))) x = _ := (upd_ne nxs).trans hx
    have hfz : (upd H sd (.frz od (dnO P w sd skv))) sd = some (.frz od (dnO P w sd skv)) := upd_same
    refine ⟨_, rfl, x, C, dx, _, .ref sd, rfl, hx8, gc.c, gc.rule, by with_unfolding_all rfl, sd, od, skv, rfl, hfz, fun D nD => ?_⟩
    have lk : skv.length = ru.length := paired_len htab
    refine lc_it walk_itemsN (fun i Y => Same (upd H sd (.frz od (dnO P w sd skv))) Y ∧ ∃ us, Y D = some (.lst us) ∧ us.length = i ∧ DpAll K Y us ((ru.take i).map RRow.d))
      ⟨same_upd nD, [], upd_same, rfl, .nil⟩ (fun i Y _ h => h.1 _ _ hfz) ?_ ?_
    · rintro i v Y0 Y hi ⟨sY, us, hD, hul, hus⟩ ⟨T, ⟨k0, ka, vv⟩, hk, rfl, nT, rfl⟩
      obtain ⟨r, hr', ek, hkd, hv⟩ := paired_get htab hk
      have hkd : Dp K H (.ref ka) r.kd := hkd
      have hv : Dp K H vv r.vd := hv
      have hi2 : i < ru.length := (List.getElem?_eq_some_iff.mp hr').1
      have sT' := same_upd (o := .tup [.ref ka, vv]) nT
      have hv1 : Dp K _ vv (.tuple [strD r.op, .tuple (r.os.map Od.d)]) := dp_same (sY.trans sT') (dp_lock (od := od) hsd dn_no hv r.vd_imm)
      have hk1 : Dp K _ (.ref ka) (.tuple [strD r.ma, r.tg.d]) := dp_same (sY.trans sT') (dp_lock (od := od) hsd dn_no hkd r.kd_imm)
      have hT : SqT K (upd Y0 T (.tup [.ref ka, vv])) T [.ref ka, vv] := SqT.of upd_same
      have hD1 := sT' _ _ hD
      have hus1 := dpAll_same sT' hus
      have sY1 := sY.trans sT'
      have nD1 := nD
      show gTup K 2 _ (.ref T) _ (upd Y0 T (.tup [.ref ka, vv])) _
      generalize upd Y0 T (.tup [.ref ka, vv]) = Y1 at hv1 hk1 hT hD1 hus1 sY1 ⊢
      obtain ⟨q0, w1, w2, e0, hq0, b1, b2⟩ := two_of hk1
      obtain rfl : ka = q0 := V.ref.inj e0
      obtain ⟨q1, v1, v2, rfl, hq, a1, a2⟩ := two_of hv1
      refine ⟨T, _, rfl, hT, rfl, _, _, rfl, ⟨ka, _, rfl, hq0, rfl, _, _, rfl, _, _, rfl, rfl, _, _, rfl, ⟨q1, _, rfl, hq, rfl, _, _, rfl, _, _, rfl, rfl, rfl, ?_⟩⟩⟩
      refine ⟨rfl, yesT ?_⟩
      refine ⟨_, rfl, _, rfl, _, rfl, _, rfl, by show 4 ≤ sizeLine; decide, fun p np => ?_⟩
      have sp := same_upd (o := .tup [w1, w2, v1, v2]) np
      have hp : SqT K (upd Y1 p (.tup [w1, w2, v1, v2])) p [w1, w2, v1, v2] := SqT.of upd_same
      generalize upd Y1 p (.tup [w1, w2, v1, v2]) = Y2 at sp hp ⊢
      refine ⟨us, sp _ _ hD1, small1000 (by omega), Same.at_ (sY1.trans sp) nD1, _, upd_same, by rw [List.length_append, hul]; rfl, ?_⟩
      have kk : KeepT Y2 (upd Y2 D (.lst (us ++ [.ref p]))) := KeepT.at_ (sp _ _ hD1) lst_no
      rw [List.take_add_one, hr', List.map_append]
      exact dpAll_appI (dpAll_imm kk (dpAll_same sp hus1) (immAll_map RRow.imm _)) (.cons (dp_imm kk (.tup hp (.cons (dp_same sp b1) (.cons (dp_same sp b2) (.cons (dp_same sp a1) (.cons (dp_same sp a2) .nil))))) r.imm) .nil)
    · rintro Y ⟨sY, us, hD, hul, hus⟩
      rw [lk, List.take_length] at hus
      refine ⟨sY _ _ hfz, ?_⟩
      have nDs : D ≠ sd := fun z => by
        rw [z, hfz] at nD
        cases nD
      have sZ := unlock_same hsd sY
      refine q _ D us sZ ?_ (by rw [upd_ne nDs]; exact hD) (dpAll_sq (unlock_sq (sY _ _ hfz) (fun _ z => by cases z)) hus (immAll_map RRow.imm ru))
      cases e : H D with
      | none => rfl
      | some o => rw [upd_ne nDs, e] at nD; cases nD
end
theorem few_ofK {α : Type} {xs ys : List α} (hn : xs.Nodup) (h : ∀ x ∈ xs, x ∈ ys) : xs.length ≤ ys.length := by
  classical
  exact nodup_leA hn h
/-! ### the least trees, as the program goes -/
abbrev s_least_trees : Stmt := top 2
abbrev N_least_trees : List Str := ["grammar", "least", "found", "making", "sort", "parts", "many", "tree", "part"]
abbrev P_least_trees : List Str := ["grammar"]
theorem sc_least_trees : FnScope N_least_trees P_least_trees (defScope s_least_trees) := ⟨rfl, rfl, rfl, by decide +kernel, rfl, by decide +kernel, by decide +kernel⟩
def LE.t3 (e : LE) : T3 := ⟨e.s, .int (e.k : Nat), e.t⟩
structure Lt17 (mg : Str → Option Value) : Prop where
  all : mg "all" = none
  sum : mg "sum" = none
  tuple : mg "tuple" = none
  min : mg "min" = none
theorem t3_ks (L : List LE) : (L.map LE.t3).map T3.k = L.map LE.s := by
  rw [List.map_map]
  rfl
theorem tab_lk {K : PySem.W.Frag} {H : Hp} {kvs : List (Key × V)} {L : List LE} (h : Tab K H kvs (L.map LE.t3)) (nd : (L.map LE.s).Nodup) {s : List Nat} {z : Nat × PyData} (e : Lk L s = some z) : ∃ v, valV kvs (kS s) = some v ∧ Dp K H v (.tuple [.int (z.1 : Nat), z.2]) := by
  obtain ⟨e', he, rfl, ek, et⟩ := lk_some e
  obtain ⟨v, h1, h2⟩ := h.val (t := e'.t3) (by rw [t3_ks]; exact nd) (List.mem_map_of_mem he)
  refine ⟨v, h1, ?_⟩
  rw [← ek, ← et]
  exact h2
theorem tab_no {K : PySem.W.Frag} {H : Hp} {kvs : List (Key × V)} {L : List LE} (h : Tab K H kvs (L.map LE.t3)) {s : List Nat} (e : Lk L s = none) : valV kvs (kS s) = none := h.none (by rw [t3_ks]; exact lk_none e)
theorem tab_is {K : PySem.W.Frag} {H : Hp} {kvs : List (Key × V)} {L : List LE} (h : Tab K H kvs (L.map LE.t3)) (nd : (L.map LE.s).Nodup) (s : List Nat) : (valV kvs (kS s)).isSome = (Lk L s).isSome := by
  cases e : Lk L s with
  | none =>
    rw [tab_no h e]
    rfl
  | some z =>
    obtain ⟨v, h1, _⟩ := tab_lk h nd e
    rw [h1]
    rfl
theorem allK_is (L : List LE) : ∀ ps : List (List Nat), (ps.map fun p => (Lk L p).isSome).all id = (allK L ps).isSome
  | [] => rfl
  | p :: ps => by
    rw [List.map_cons, List.all_cons, allK_is L ps]
    show ((Lk L p).isSome && (allK L ps).isSome) = (match Lk L p, allK L ps with | some z, some zs => some (z :: zs) | _, _ => none).isSome
    cases Lk L p <;> cases allK L ps <;> rfl
theorem allK_get {L : List LE} {ps : List (List Nat)} {zs : List (Nat × PyData)} (h : allK L ps = some zs) : zs = ps.map fun p => (Lk L p).getD (0, .none) := by
  have pk := allK_pk h
  clear h
  induction pk with
  | nil => rfl
  | cons a r ih => rw [List.map_cons, a, ← ih]; rfl
/-! their order -/
theorem toks_le (e : LE) : PySem.W.keyToks e.d = Sum.inl 1 :: Sum.inl ((e.k : Nat) : Int) :: Sum.inl 1 :: (PySem.W.keyToks e.t ++ PySem.W.keyToksAll [strD e.s]) := by
  unfold LE.d
  simp only [PySem.W.keyToks, PySem.W.toks_all_cons]
  rfl
theorem le_lt {a b : LE} (h : a.k < b.k) : PySem.W.dataLt a.d b.d = true := by
  have ne : (Sum.inl ((a.k : Nat) : Int) : Int ⊕ List Nat) ≠ .inl ((b.k : Nat) : Int) := fun z => by
    injection z with z
    omega
  unfold PySem.W.dataLt
  rw [toks_le, toks_le, PyProof.Rows.lex_self, PySem.W.lex_atom ne]
  have := PySem.W.dataLt_int ((a.k : Nat) : Int) ((b.k : Nat) : Int)
  unfold PySem.W.dataLt at this
  simp only [PySem.W.keyToks] at this
  rw [this]
  exact decide_eq_true (by omega)
theorem le_lt2 {a b : LE} (hk : a.k = b.k) (al : PySem.W.alike a.t b.t = true) (h : PySem.W.dataLt a.t b.t = true) : PySem.W.dataLt a.d b.d = true := by
  have he : PyData.eqv a.t b.t = false := by
    cases z : PyData.eqv a.t b.t with
    | false => rfl
    | true =>
      unfold PySem.W.dataLt at h
      rw [(PySem.W.toks_eqv _ _ al).1 z, PyProof.Rows.lex_irrefl] at h
      cases h
  unfold PySem.W.dataLt
  rw [toks_le, toks_le, hk, PyProof.Rows.lex_self, PyProof.Rows.lex_self, PyProof.Rows.lex_self, (PySem.W.toks_eqv _ _ al).2 he]
  exact h
theorem le_alike {a b : LE} (al : PySem.W.alike a.t b.t = true) : PySem.W.alike a.d b.d = true := by
  unfold LE.d strD
  simp only [PySem.W.alike, PySem.W.alikeAll, al, Bool.and_self]
/-- what is found is trees -/
theorem founds_tr {ms : List MRow} {L : List LE} (I : LInv ms L) (h2 : ∀ m ∈ ms, m.pt.length ≤ 2) {e : LE} (h : e ∈ founds L ms) : TrF e.k e.t ∧ e.k ≤ 2 * 2 ^ L.length := by
  obtain ⟨m, hm, hf⟩ := List.mem_filterMap.mp h
  obtain ⟨hl, zs, hz, rfl⟩ := fnd_some hf
  have pk := allK_pk hz
  have l2 : zs.length ≤ 2 := by
    rw [← pk_len pk]
    exact h2 m hm
  have bound : ∀ z ∈ zs, z.1 + 1 ≤ 2 ^ L.length := fun z hz' => by
    obtain ⟨x, _, hx⟩ := pk_get pk z hz'
    obtain ⟨e, he, _, ek, _⟩ := lk_some hx
    have := (I.ok e he).2.2
    omega
  refine ⟨?_, ?_⟩
  · show TrF (1 + sumZ zs) _
    rw [Nat.add_comm]
    refine ⟨m.nm, _, rfl, by rw [List.length_map]; exact l2, fun p hp => ?_⟩
    obtain ⟨z, hz', rfl⟩ := List.mem_map.mp hp
    obtain ⟨x, _, hx⟩ := pk_get pk z hz'
    obtain ⟨e, he, es, ek, et⟩ := lk_some hx
    have := (I.ok e he).1
    rw [ek, et] at this
    exact (bs_tr h2 z.1 this).mono (sumZ_le hz')
  · have p1 : 1 ≤ 2 ^ L.length := Nat.one_le_two_pow
    show 1 + sumZ zs ≤ _
    match zs, l2, bound with
    | [], _, _ =>
      show 1 + 0 ≤ _
      omega
    | [z], _, bound =>
      have := bound z List.mem_cons_self
      show 1 + (z.1 + 0) ≤ _
      omega
    | [z, y], _, bound =>
      have a1 := bound z List.mem_cons_self
      have a2 := bound y (List.mem_cons_of_mem _ List.mem_cons_self)
      show 1 + (z.1 + (y.1 + 0)) ≤ _
      omega
theorem founds_new {ms : List MRow} {L : List LE} {e : LE} (h : e ∈ founds L ms) : e.s ∉ L.map LE.s := by
  obtain ⟨m, hm, hf⟩ := List.mem_filterMap.mp h
  obtain ⟨hl, zs, hz, rfl⟩ := fnd_some hf
  exact lk_none hl
def spLeasts (K : PySem.W.Frag) (P : Program) (w : World) (G : Addr) : Sp := fun vs H Q _ => ∃ (Z : Hp) (x : Addr) (rs : List SRow) (ms : List MRow) (ru : List RRow) (roof : Nat), vs = [.ref x] ∧ GrOk K P w G Z H x rs ms ru roof ∧ GFit rs ms ru roof ∧
  ∀ (H' : Hp) (d : Addr) (kvs : List (Key × V)) (L : List LE), Same H H' → H d = none → H' d = some (.dK kvs) → Tab K H' kvs (L.map LE.t3) → LInv ms L → L.length ≤ 4 → founds L ms = [] → Q (.ref d) H'
theorem mrow_at {K : PySem.W.Frag} {H : Hp} {v : V} {m : MRow} (h : Dp K H v m.d) : ∃ q p, v = .ref q ∧ SqT K H q [.str (SX.S m.nm), .str (SX.S m.so), .ref p] ∧ SqT K H p (nmV m.pt) := by
  obtain ⟨q, v1, v2, rfl, hq, h1, h2⟩ := t3_at (t := mT m) h
  cases h1
  obtain ⟨p, rfl, hp⟩ := names_dp (show Dp K H v2 (.tuple (m.pt.map strD)) from h2)
  exact ⟨q, p, rfl, hq, hp⟩
theorem founds_snoc (L : List LE) (ms : List MRow) (m : MRow) : founds L (ms ++ [m]) = founds L ms ++ (fnd L m).toList := by
  unfold founds
  rw [List.filterMap_append]
  cases h : fnd L m <;> simp [h]
theorem linv_len {rs : List SRow} {ms : List MRow} {ru : List RRow} {roof : Nat} (g : GFit rs ms ru roof) {L : List LE} (I : LInv ms L) : L.length ≤ 4 := by
  have h := few_ofK (xs := L.map LE.s) (ys := rs.map SRow.nm) I.nd fun s hs => by
    obtain ⟨e, he, rfl⟩ := List.mem_map.mp hs
    obtain ⟨m, hm, e1⟩ := I.ks e he
    obtain ⟨r, hr, e2⟩ := (g.ok m hm).so m.so List.mem_cons_self
    exact List.mem_map.mpr ⟨r, hr, e2.trans e1⟩
  rw [List.length_map, List.length_map] at h
  exact Nat.le_trans h g.so.le
section
variable {P : Program} {w : World} {K : PySem.W.Frag} {mg : Str → Option Value} {base : Heap} {G : Addr}
theorem ok_least_trees (T : Lt17 mg) (M2 : C8.Met P w K mg base 1 G "makings" (spRowsOf K P w G fun _ ms _ => ms.map MRow.d) []) (D : Dd K mg "least_trees" s_least_trees P_least_trees) : C8.Cal P w K mg base 2 "least_trees" (spLeasts K P w G) [] := by
  refine D.cal sc_least_trees (fun vs H Q E h => ?_) (fun f cdv A outer s H vs Q E hr h => ?_)
  · obtain ⟨Z, x, rs, ms, ru, roof, rfl, _⟩ := h
    rfl
  · obtain ⟨Z, x, rs, ms, ru, roof, rfl, go, gf, q⟩ := h
    refine ⟨_, (pss_cons (ps_set (i := 1) sc_least_trees.nd rfl (Or.inr rfl) pe_dnewK)
        (pss_one (ps_while PassesOwn.never (pt_val pe_bl)
          (pss_cons (ps_set (i := 2) sc_least_trees.nd rfl (Or.inl rfl) (pe_lst pa_nil))
        (pss_cons (ps_for PassesOwn.never rfl (pi_list (C8.pe_mt0 M2 hr (by decide) (pv 0))) (pg_tup rfl (pgs_cons (pg_name (i := 3) sc_least_trees.nd rfl (Or.inl rfl)) (pgs_cons (pg_name (i := 4) sc_least_trees.nd rfl (Or.inl rfl)) (pgs_cons (pg_name (i := 5) sc_least_trees.nd rfl (Or.inl rfl)) pgs_nil))))
          (pss_one (ps_if (PW.pt (pw_and (pt_cmp (pc_dnotin (hu_of hr) (pv 4) (pv 1)) (by with_unfolding_all rfl)) (pw_and1 (pt_val (pe_callB (cr_all rfl) (by rfl) T.all (by decide +kernel) (pa_cons (pe_lc (own := [("part", 8)]) (by exact rfl) sc_least_trees.nd (pi_tup (pv 5)) (blkOk_by (own := [("part", 8)]) (N := N_least_trees) (sc := defScope s_least_trees) (by decide +kernel)) (fun _ _ _ _ _ => (pg_name (i := 8) sc_least_trees.nd rfl (Or.inl rfl))) (fun _ _ _ _ _ => pts_nil) (fun _ _ _ _ _ => (pe_cmp (pc_din (hu_of hr) (pv 8) (pv 1)) (by with_unfolding_all rfl)))) pa_nil))))))
          (pss_cons (ps_set (i := 6) sc_least_trees.nd rfl (Or.inl rfl) (pe_op op_add pe_int (pe_callB (cr_sum rfl) (by rfl) T.sum (by decide +kernel) (pa_cons (pe_lc (own := [("part", 8)]) (by exact rfl) sc_least_trees.nd (pi_tup (pv 5)) (blkOk_by (own := [("part", 8)]) (N := N_least_trees) (sc := defScope s_least_trees) (by decide +kernel)) (fun _ _ _ _ _ => (pg_name (i := 8) sc_least_trees.nd rfl (Or.inl rfl))) (fun _ _ _ _ _ => pts_nil) (fun _ _ _ _ _ => (pe_ix (r := rIxT K) ix_tup (pe_dget (hu_of hr) (pv 1) (pv 8) (fun _ _ => rfl)) pe_int (fun _ _ => rfl)))) pa_nil))))
        (pss_one (ps_expr (pe_bm PySem.F.plainAttrs_list PySem.F.slot_list_append PySem.F.type_list_append mt_append (pv 2) (pa_cons (pe_tup (pa_cons (pv 6) (pa_cons (pe_tup (pa_cons (pv 3) (pa_cons pe_int (pa_cons (pe_callTy call_tuple_of (by rfl) T.tuple (by decide +kernel) (pa_cons (pe_lc (own := [("part", 8)]) (by exact rfl) sc_least_trees.nd (pi_tup (pv 5)) (blkOk_by (own := [("part", 8)]) (N := N_least_trees) (sc := defScope s_least_trees) (by decide +kernel)) (fun _ _ _ _ _ => (pg_name (i := 8) sc_least_trees.nd rfl (Or.inl rfl))) (fun _ _ _ _ _ => pts_nil) (fun _ _ _ _ _ => (pe_ix (r := rIxT K) ix_tup (pe_dget (hu_of hr) (pv 1) (pv 8) (fun _ _ => rfl)) pe_int (fun _ _ => rfl)))) pa_nil)) pa_nil)))) (pa_cons (pv 4) pa_nil)))) pa_nil)))))
          pss_nil)))
        (C8.pss_cut (ps_if (pt_not (pt_truth (pv 2) (by intro _; rfl)))
          (pss_one (ps_ret (pv 1)))
          pss_nil)
        (pss_cons (ps_asg (pe_callB (r := rMinL K) (cr_minL rfl (hu65 hr)) (by rfl) T.min (by decide +kernel) (pa_cons (pv 2) pa_nil)) (pg_tup rfl (pgs_cons (pg_name (i := 6) sc_least_trees.nd rfl (Or.inl rfl)) (pgs_cons (pg_name (i := 7) sc_least_trees.nd rfl (Or.inl rfl)) (pgs_cons (pg_name (i := 4) sc_least_trees.nd rfl (Or.inl rfl)) pgs_nil)))))
        (pss_one (ps_dput (hu_of hr) (pv 1) (pv 4) (pe_tup (pa_cons (pv 6) (pa_cons (pv 7) pa_nil))) (by rfl)))))))))), ?_⟩
    have h2 : ∀ m ∈ ms, m.pt.length ≤ 2 := fun m hm => (gf.ok m hm).p2
    obtain ⟨dx, _, _, _, _, _, hx, _⟩ := go.ex
    refine fun d nd => ?_
    have s1 := same_upd (o := .dK []) nd
    refine ⟨fun n σ Y => ∃ (y2 y3 y4 y5 y6 y7 y8 : Option V) (L : List LE) (kvs : List (Key × V)), n = 5 - L.length ∧ σ = [some (.ref x), some (.ref d), y2, y3, y4, y5, y6, y7, y8] ∧ Same H Y ∧ Y d = some (.dK kvs) ∧ Tab K Y kvs (L.map LE.t3) ∧ LInv ms L, ⟨5, _, _, _, _, _, _, _, [], [], rfl, rfl, s1, upd_same, .nil, .nil ms⟩, ?_⟩
    rintro n σ Y ⟨y2, y3, y4, y5, y6, y7, y8, L, kvs, rfl, rfl, sY, hd, tab, I⟩
    have l4 := linv_len gf I
    have lk2 : ∀ {a b c d e f : V}, (g6 a b c d e f).lookup (("makings" : String) : Str) = none := fun {a b c d e f} => by with_unfolding_all rfl
    refine ⟨true, rfl, iteT ⟨fun σ' Y' => ∃ (y2 y3 y4 y5 y6 y7 y8 : Option V) (L' : List LE) (kvs' : List (Key × V)), L'.length = L.length + 1 ∧ σ' = [some (.ref x), some (.ref d), y2, y3, y4, y5, y6, y7, y8] ∧ Same H Y' ∧ Y' d = some (.dK kvs') ∧ Tab K Y' kvs' (L'.map LE.t3) ∧ LInv ms L', ?_, ?_⟩⟩
    · rintro σ' Y' ⟨y2, y3, y4, y5, y6, y7, y8, L', kvs', e, rfl, a1, a2, a3, a4⟩
      have := linv_len gf a4
      exact ⟨5 - L'.length, by omega, _, _, _, _, _, _, _, L', kvs', rfl, rfl, a1, a2, a3, a4⟩
    -- what is found
    refine ⟨by show 0 ≤ sizeLine; decide, fun lf nlf => ?_⟩
    have u1 := same_upd (o := .lst []) nlf
    have hlf : (upd Y lf (.lst [])) lf = some (.lst []) := upd_same
    generalize upd Y lf (.lst []) = Y1 at u1 hlf ⊢
    have sY1 := sY.trans u1
    refine ⟨_, rfl, x, dx, _, rfl, sY1 _ _ hx, lk2, Z, x, rs, ms, ru, roof, rfl, go.same sY1, gf.so.le, gf.m8, gf.rl, fun Y2 q1 es s2 nq1 hq1 hes => ?_⟩
    have hes : DpAll K Y2 es (ms.map MRow.d) := hes
    have u12 := u1.trans s2
    have hlf2 := s2 _ _ hlf
    have nql : q1 ≠ lf := (ne_of_none hlf nq1).symm
    have ndl : d ≠ lf := ne_of_none hd nlf
    have hd2 := u12 _ _ hd
    have tab2 := tab.keep (KeepT.of u12) (fun t ht => by
      obtain ⟨e, he, rfl⟩ := List.mem_map.mp ht
      have := (bs_tr h2 e.k (I.ok e he).1).imm
      show (true && (imm e.t && true)) = true
      rw [this]
      rfl)
    have tim : ∀ t ∈ L.map LE.t3, imm t.r = true := fun t ht => by
      obtain ⟨e, he, rfl⟩ := List.mem_map.mp ht
      have := (bs_tr h2 e.k (I.ok e he).1).imm
      show (true && (imm e.t && true)) = true
      rw [this]
      rfl
    have lms := gf.m8
    have les := dpAll_len hes
    rw [List.length_map] at les
    refine ⟨q1, rfl, ⟨_, SqL.of hq1⟩, ?_⟩
    refine for_it walk_list (fun j σ Y' => ∃ (y3 y4 y5 y6 y7 y8 : Option V) (fs : List V), σ = [some (.ref x), some (.ref d), some (.ref lf), y3, y4, y5, y6, y7, y8] ∧ But lf Y2 Y' ∧ KeepT Y2 Y' ∧ Y' lf = some (.lst fs) ∧ DpAll K Y' fs ((founds L (ms.take j)).map LE.d))
      ⟨y3, y4, y5, y6, y7, y8, [], rfl, But.refl lf Y2, KeepT.of (Same.refl Y2), hlf2, .nil⟩ (fun j σ Y' _ ⟨_, _, _, _, _, _, _, _, b, _⟩ => SqL.of (b _ _ nql hq1)) ?_ ?_
    · rintro j v σ Y0 Y' hj ⟨y3, y4, y5, y6, y7, y8, fs, rfl, bt, kp, hf, df⟩ ⟨rfl, hv⟩
      have hv : es[j]? = some v := hv
      obtain ⟨dd, hdd, hvd⟩ := dpAll_at (dpAll_imm kp hes (immAll_map MRow.imm ms)) hv
      rw [List.getElem?_map] at hdd
      obtain ⟨m, hm, rfl⟩ : ∃ m, ms[j]? = some m ∧ dd = m.d := by
        cases h : ms[j]? with
        | none => rw [h] at hdd; cases hdd
        | some e => rw [h] at hdd; exact ⟨e, rfl, (Option.some.inj hdd).symm⟩
      have hj8 : j < ms.length := (List.getElem?_eq_some_iff.mp hm).1
      have hmm := List.mem_of_getElem? hm
      have pt2 := h2 m hmm
      obtain ⟨q, pp, rfl, hq, hpp⟩ := mrow_at hvd
      have tk : founds L (ms.take (j + 1)) = founds L (ms.take j) ++ (fnd L m).toList := by
        rw [List.take_add_one, hm]
        exact founds_snoc L _ m
      have lfd : (founds L (ms.take j)).length ≤ j := Nat.le_trans (List.length_filterMap_le _ _) (by rw [List.length_take]; omega)
      have lfs := dpAll_len df
      rw [List.length_map] at lfs
      have hd3 := bt _ _ ndl hd2
      have tab3 := tab2.keep kp tim
      refine ⟨q, _, rfl, hq, rfl, _, _, rfl, _, _, rfl, _, _, rfl, rfl, ?_⟩
      refine ⟨_, rfl, _, rfl, d, _, rfl, DGet.k (k := kS m.so) hd3, _, rfl, ?_⟩
      cases hs : Lk L m.so with
      | some z =>
        have hfn : fnd L m = none := by
          unfold fnd
          rw [hs]
          rfl
        rw [hfn] at tk
        have := tab_is tab3 I.nd m.so
        rw [hs] at this
        obtain ⟨u, hu⟩ := Option.isSome_iff_exists.mp this
        rw [hu]
        refine iteF ?_
        refine ⟨_, _, _, _, _, _, fs, rfl, bt, kp, hf, ?_⟩
        rw [tk]
        simpa using df
      | none =>
        rw [tab_no tab3 hs]
        refine iteT ?_
        refine ⟨_, rfl, pp, rfl, ⟨_, hpp⟩, fun D nD => ?_⟩
        refine lc_datT (xs := m.pt) (fv := fun w => V.str (SX.S w)) (f := fun p => .bool (Lk L p).isSome) (p := fun _ => true) hpp (fun _ _ => rfl) (by omega) nD (fun p U X F hp sU hX _ => ?_) fun U bs sU hD hb => ?_
        · refine ⟨rfl, yesT ?_⟩
          refine ⟨_, rfl, _, rfl, d, _, rfl, DGet.k (k := kS p) (sU _ _ hd3), hX rfl _ _ (Same.refl U) ?_⟩
          rw [tab_is tab3 I.nd p]
          exact .bl _
        rw [List.filter_eq_self.mpr (fun _ _ => rfl)] at hb
        rw [show m.pt.map (fun p => PyData.bool (Lk L p).isSome) = (m.pt.map fun p => (Lk L p).isSome).map PyData.bool by rw [List.map_map]; rfl] at hb
        rw [dpAll_bools hb] at hD
        refine ⟨D, _, rfl, SqL.of hD, _, rfl, ?_⟩
        rw [allK_is]
        cases hz : allK L m.pt with
        | none =>
          have hfn : fnd L m = none := by
            unfold fnd
            rw [hs, hz]
            rfl
          rw [hfn] at tk
          refine iteF ?_
          refine ⟨_, _, _, _, _, _, fs, rfl, bt.trans (But.of sU), kp.trans (KeepT.of sU), sU _ _ hf, ?_⟩
          rw [tk]
          simpa using dpAll_same sU df
        | some zs =>
          have hfn := fnd_of hs hz
          rw [hfn] at tk
          refine iteT ?_
          have ezs := allK_get hz
          have pkz := allK_pk hz
          have get : ∀ p ∈ m.pt, ∃ v z, valV kvs (kS p) = some v ∧ Lk L p = some z ∧ ∃ q vt, v = .ref q ∧ SqT K Y' q [.int (z.1 : Nat), vt] ∧ Dp K Y' vt z.2 := fun p hp => by
            obtain ⟨z, _, hz⟩ := pk_get1 pkz p hp
            obtain ⟨v, h1, h2⟩ := tab_lk tab3 I.nd hz
            refine ⟨v, z, h1, hz, ?_⟩
            cases h2 with
            | tup hq hA =>
              cases hA with
              | cons a1 hA =>
                cases hA with
                | cons a2 hA =>
                  cases hA
                  cases a1
                  exact ⟨_, _, rfl, hq, a2⟩
          -- many
          refine ⟨_, rfl, pp, rfl, ⟨_, sqT_s sU hpp⟩, fun D2 nD2 => ?_⟩
          refine lc_datT (xs := m.pt) (fv := fun w => V.str (SX.S w)) (f := fun p => .int (((Lk L p).getD (0, .none)).1 : Nat)) (p := fun _ => true) (sqT_s sU hpp) (fun _ _ => rfl) (by omega) nD2 (fun p U2 X F hp sU2 hX _ => ?_) fun U2 ns sU2 hD2 hn => ?_
          · obtain ⟨v, z, h1, h2, q', vt, rfl, h3, h4⟩ := get p hp
            have hg : DGet U2 d (.str (SX.S p)) (some (.ref q')) := by
              have h := DGet.k (k := kS p) ((sU.trans sU2) _ _ hd3)
              rw [h1] at h
              exact h
            refine ⟨rfl, yesT ?_⟩
            refine ⟨_, rfl, _, rfl, d, _, rfl, hg, q', _, 0, _, rfl, rfl, sqT_s (sU.trans sU2) h3, atI_nat (j := 0) rfl, hX rfl _ _ (Same.refl U2) ?_⟩
            rw [h2]
            exact .int _
          rw [List.filter_eq_self.mpr (fun _ _ => rfl)] at hn
          rw [show m.pt.map (fun p => PyData.int (((Lk L p).getD (0, .none)).1 : Nat)) = (m.pt.map fun p => ((((Lk L p).getD (0, .none)).1 : Nat) : Int)).map PyData.int by rw [List.map_map]; rfl] at hn
          rw [dpAll_ints hn] at hD2
          refine ⟨D2, _, rfl, SqL.of hD2, _, _, rfl, rfl, ?_⟩
          have esum : ((m.pt.map fun p => ((((Lk L p).getD (0, .none)).1 : Nat) : Int)).sum) = ((sumZ zs : Nat) : Int) := by
            rw [ezs]
            unfold sumZ
            rw [List.map_map]
            generalize m.pt = ps
            induction ps with
            | nil => rfl
            | cons p ps ih =>
              rw [List.map_cons, List.sum_cons, List.map_cons, List.sum_cons, ih]
              show _ = ((((Lk L p).getD (0, .none)).1 + _ : Nat) : Int)
              omega
          rw [esum]
          have s02 := sU.trans sU2
          refine ⟨_, rfl, .inl ⟨rfl, _, SqL.of (s02 _ _ hf)⟩, ?_⟩
          refine ⟨_, rfl, _, rfl, _, rfl, pp, rfl, ⟨_, sqT_s s02 hpp⟩, fun D3 nD3 => ?_⟩
          refine lc_datT (xs := m.pt) (fv := fun w => V.str (SX.S w)) (f := fun p => ((Lk L p).getD (0, .none)).2) (p := fun _ => true) (sqT_s s02 hpp) (fun p hp => ?_) (by omega) nD3 (fun p U3 X F hp sU3 hX _ => ?_) fun U3 ts sU3 hD3 ht => ?_
          · obtain ⟨v, z, _, h2', _⟩ := get p hp
            rw [h2']
            obtain ⟨e, he, _, ek, et⟩ := lk_some h2'
            have := (bs_tr h2 e.k (I.ok e he).1).imm
            rw [et] at this
            exact this
          · obtain ⟨v, z, h1, h2, q', vt, rfl, h3, h4⟩ := get p hp
            have hg : DGet U3 d (.str (SX.S p)) (some (.ref q')) := by
              have h := DGet.k (k := kS p) ((s02.trans sU3) _ _ hd3)
              rw [h1] at h
              exact h
            refine ⟨rfl, yesT ?_⟩
            refine ⟨_, rfl, _, rfl, d, _, rfl, hg, q', _, 1, vt, rfl, rfl, sqT_s (s02.trans sU3) h3, atI_nat (j := 1) rfl, hX rfl _ _ (Same.refl U3) ?_⟩
            rw [h2]
            exact dp_same (s02.trans sU3) h4
          rw [List.filter_eq_self.mpr (fun _ _ => rfl)] at ht
          have ht : DpAll K U3 ts (zs.map (·.2)) := by
            rw [ezs, List.map_map]
            exact ht
          refine ⟨D3, _, rfl, .inl ⟨SqL.of hD3, fun t0 n0 => ?_⟩⟩
          have w0 := same_upd (o := .tup ts) n0
          have h0 : SqT K (upd U3 t0 (.tup ts)) t0 ts := SqT.of upd_same
          generalize upd U3 t0 (.tup ts) = U4 at w0 h0 ⊢
          refine ⟨by show 3 ≤ sizeLine; decide, fun t1 n1 => ?_⟩
          have w1 := same_upd (o := .tup [.str (SX.S m.nm), .int 0, .ref t0]) n1
          have h1 : SqT K (upd U4 t1 (.tup [.str (SX.S m.nm), .int 0, .ref t0])) t1 [.str (SX.S m.nm), .int 0, .ref t0] := SqT.of upd_same
          generalize upd U4 t1 (.tup [.str (SX.S m.nm), .int 0, .ref t0]) = U5 at w1 h1 ⊢
          refine ⟨_, rfl, by show 3 ≤ sizeLine; decide, fun t2 n2 => ?_⟩
          have w2 := same_upd (o := .tup [.int (1 + ((sumZ zs : Nat) : Int)), .ref t1, .str (SX.S m.so)]) n2
          have s25 := ((sU3.trans w0).trans w1).trans w2
          have s05 := s02.trans s25
          have dE : Dp K (upd U5 t2 (.tup [.int (1 + ((sumZ zs : Nat) : Int)), .ref t1, .str (SX.S m.so)])) (.ref t2) (LE.d ⟨m.so, 1 + sumZ zs, trD m.nm (zs.map (·.2))⟩) :=
            .tup (SqT.of upd_same) (.cons (.int _) (.cons (.tup (sqT_s w2 h1) (.cons (.str _) (.cons (.int _) (.cons (.tup (sqT_s (w1.trans w2) h0) (dpAll_same ((w0.trans w1).trans w2) ht)) .nil)))) (.cons (.str _) .nil)))
          generalize upd U5 t2 (.tup [.int (1 + ((sumZ zs : Nat) : Int)), .ref t1, .str (SX.S m.so)]) = U6 at w2 s25 s05 dE ⊢
          have hf6 := s05 _ _ hf
          refine ⟨lf, fs, _, rfl, rfl, hf6, small1000 (by omega), _, _, _, _, _, _, _, rfl, (bt.trans (But.of s05)).trans (But.upd (But.refl lf U6)), (kp.trans (KeepT.of s05)).trans (KeepT.at_ hf6 lst_no), upd_same, ?_⟩
          have iE : ∀ e ∈ founds L ms, imm e.d = true := fun e he => by
            have := (founds_tr I h2 he).1.imm
            show (true && (imm e.t && (true && true))) = true
            rw [this]
            rfl
          have sub : ∀ e ∈ founds L (ms.take j), e ∈ founds L ms := fun e he => by
            obtain ⟨m', hm', h⟩ := List.mem_filterMap.mp he
            exact List.mem_filterMap.mpr ⟨m', List.mem_of_mem_take hm', h⟩
          rw [tk, List.map_append]
          refine dpAll_appI (dpAll_imm ((KeepT.of s05).trans (KeepT.at_ hf6 lst_no)) df (immAll_of2 fun d hd => ?_)) (.cons (dp_imm (KeepT.at_ hf6 lst_no) dE (iE _ (List.mem_filterMap.mpr ⟨m, hmm, hfn⟩))) .nil)
          obtain ⟨e, he, rfl⟩ := List.mem_map.mp hd
          exact iE e (sub e he)
    · rintro σ Y3 ⟨y3, y4, y5, y6, y7, y8, fs, rfl, bt, kp, hf, df⟩
      rw [les, List.take_length] at df
      have hd3 := bt _ _ ndl hd2
      have tab3 := tab2.keep kp tim
      have s3 : Same H Y3 := fun b o e => by
        by_cases z : b = lf
        · rw [z, sY.free nlf] at e
          cases e
        · exact bt b o z (s2 _ _ (sY1 _ _ e))
      have lfd : (founds L ms).length ≤ 8 := Nat.le_trans (List.length_filterMap_le _ _) gf.m8
      have lfs := dpAll_len df
      rw [List.length_map] at lfs
      refine ⟨fun σ' Y' => σ' = [some (.ref x), some (.ref d), some (.ref lf), y3, y4, y5, y6, y7, y8] ∧ Y' = Y3 ∧ founds L ms ≠ [], ?_, ?_⟩
      · refine ⟨_, rfl, _, .inl ⟨fs, SqL.of hf, rfl⟩, ?_⟩
        cases fs with
        | nil =>
          refine iteT ⟨_, rfl, ?_⟩
          exact q Y3 d kvs L s3 (sY.free nlf |> fun _ => by assumption) hd3 tab3 I l4 (List.eq_nil_of_length_eq_zero (by rw [← lfs]; rfl))
        | cons v vs =>
          refine iteF ⟨rfl, rfl, fun z => ?_⟩
          rw [z] at lfs
          cases lfs
      rintro σ' Y' ⟨rfl, rfl, hne⟩
      obtain ⟨e0, er, hfe⟩ : ∃ e0 er, founds L ms = e0 :: er := by
        cases h : founds L ms with
        | nil => exact absurd h hne
        | cons a b => exact ⟨a, b, rfl⟩
      rw [hfe, List.map_cons] at df
      have tr : ∀ e ∈ e0 :: er, TrF e.k e.t ∧ e.k ≤ 2 * 2 ^ L.length := fun e he => founds_tr I h2 (hfe ▸ he)
      have l3 : L.length ≤ 3 := by
        have h := few_ofK (xs := e0.s :: L.map LE.s) (ys := rs.map SRow.nm) (List.nodup_cons.mpr ⟨founds_new (ms := ms) (by rw [hfe]; exact List.mem_cons_self), I.nd⟩) fun s hs => by
          have key : ∃ m ∈ ms, m.so = s := by
            rcases List.mem_cons.mp hs with rfl | hs
            · obtain ⟨m, hm, hf⟩ := List.mem_filterMap.mp (show e0 ∈ founds L ms by rw [hfe]; exact List.mem_cons_self)
              obtain ⟨_, _, _, rfl⟩ := fnd_some hf
              exact ⟨m, hm, rfl⟩
            · obtain ⟨e, he, rfl⟩ := List.mem_map.mp hs
              exact I.ks e he
          obtain ⟨m, hm, e1⟩ := key
          obtain ⟨r, hr, e2⟩ := (gf.ok m hm).so m.so List.mem_cons_self
          exact List.mem_map.mpr ⟨r, hr, e2.trans e1⟩
        rw [List.length_cons, List.length_map, List.length_map] at h
        have := gf.so.le
        omega
      have p4 : 2 ^ L.length ≤ 2 ^ 3 := Nat.pow_le_pow_right (by decide) l3
      have hal : PySem.W.AlikeAll (e0.d :: er.map LE.d) := by
        refine ⟨fun a ha b hb => ?_, fun a ha => ?_⟩
        · obtain ⟨ea, h1, rfl⟩ := List.mem_map.mp (show a ∈ (e0 :: er).map LE.d from ha)
          obtain ⟨eb, h2, rfl⟩ := List.mem_map.mp (show b ∈ (e0 :: er).map LE.d from hb)
          exact le_alike ((tr ea h1).1.alike (tr eb h2).1)
        · obtain ⟨ea, h1, rfl⟩ := List.mem_map.mp (show a ∈ (e0 :: er).map LE.d from ha)
          exact fun z => by cases z
      have hdp : PyData.depthAll (e0.d :: er.map LE.d) ≤ 60 := depthAll_of fun a ha => by
        obtain ⟨ea, h1, rfl⟩ := List.mem_map.mp (show a ∈ (e0 :: er).map LE.d from ha)
        have := (tr ea h1).1.depth
        have := (tr ea h1).2
        show max 0 (max (PyData.depth ea.t) (max 0 0)) + 1 ≤ 60
        omega
      refine ⟨_, rfl, lf, fs, e0.d, er.map LE.d, rfl, SqL.of hf, df, hal, hdp, fun i v hv hmin => ?_⟩
      have hmin : ((e0 :: er).map LE.d)[i]? = some (PySem.W.minD e0.d (er.map LE.d)) := hmin
      rw [List.getElem?_map] at hmin
      obtain ⟨e, he, hed⟩ : ∃ e, (e0 :: er)[i]? = some e ∧ e.d = PySem.W.minD e0.d (er.map LE.d) := by
        cases h : (e0 :: er)[i]? with
        | none => rw [h] at hmin; cases hmin
        | some e => rw [h] at hmin; exact ⟨e, rfl, Option.some.inj hmin⟩
      have hem := List.mem_of_getElem? he
      have hin : e ∈ founds L ms := hfe ▸ hem
      have least : ∀ e' ∈ founds L ms, PySem.W.dataLt e'.d e.d = false := fun e' he' => by
        rw [hed]
        exact minD_le (er.map LE.d) e0.d e'.d (show e'.d ∈ (e0 :: er).map LE.d from List.mem_map_of_mem (hfe ▸ he'))
      have hk : ∀ e' ∈ founds L ms, e.k ≤ e'.k := fun e' he' => by
        rcases Nat.lt_or_ge e'.k e.k with hlt | hge
        · have := least e' he'
          rw [le_lt hlt] at this
          cases this
        · exact hge
      have I' := I.step h2 hin hk fun e' he' _ ek => by
        cases z : PySem.W.dataLt e'.t e.t with
        | false => rfl
        | true =>
          have := least e' he'
          rw [le_lt2 ek ((tr e' (hfe ▸ he')).1.alike (tr e hem).1) z] at this
          cases this
      obtain ⟨dv, hdv, hvd⟩ := dpAll_at df hv
      have hdv : ((e0 :: er).map LE.d)[i]? = some dv := hdv
      rw [List.getElem?_map, he] at hdv
      cases hdv
      have hvd : Dp K Y' v (.tuple [.int (e.k : Nat), e.t, strD e.s]) := hvd
      cases hvd with
      | tup hq hA =>
        cases hA with
        | cons a1 hA =>
          cases hA with
          | cons a2 hA =>
            cases hA with
            | cons a3 hA =>
              cases hA
              cases a1
              cases a3
              refine ⟨_, _, rfl, hq, rfl, _, _, rfl, _, _, rfl, _, _, rfl, rfl, ?_⟩
              refine ⟨_, rfl, _, rfl, by show 2 ≤ sizeLine; decide, fun t1 n1 => ?_⟩
              rename_i v
              have w1 := same_upd (o := .tup [.int (e.k : Nat), v]) n1
              have hd4 := w1 _ _ hd3
              have hv4 : Dp K (upd Y' t1 (.tup [.int (e.k : Nat), v])) (.ref t1) (LE.t3 e).r := .tup (SqT.of upd_same) (.cons (.int _) (.cons (dp_same w1 a2) .nil))
              generalize upd Y' t1 (.tup [.int (e.k : Nat), v]) = Y4 at w1 hd4 hv4 ⊢
              have hno : (LE.t3 e).k ∉ (L.map LE.t3).map T3.k := by
                rw [t3_ks]
                exact founds_new hin
              have lk := tab3.len
              rw [List.length_map] at lk
              have hpt := (tab3.keep (KeepT.of w1) tim).put (t := LE.t3 e) hno hv4
              refine ⟨_, rfl, _, rfl, d, _, rfl, DPut.k (k := kS e.s) hd4 (small1000 (by omega)), _, _, _, _, _, _, _, L ++ [e], _, ?_, rfl, ?_, upd_same, ?_, I'⟩
              · rw [List.length_append]
                rfl
              · exact Same.at_ (s3.trans w1) nd
              · rw [List.map_append]
                refine hpt.keep (KeepT.at_ hd4 dK_no) fun t ht => ?_
                rcases List.mem_append.mp ht with ht | ht
                · exact tim t ht
                · rw [List.mem_singleton.mp ht]
                  have := (tr e hem).1.imm
                  show (true && (imm e.t && true)) = true
                  rw [this]
                  rfl
end
/-! ### the least tree of a sort, or no such sort -/
abbrev s_GW : Stmt := (inClass (top 53) 5)
abbrev N_GW : List Str := ["self", "sort"]
theorem sc_GW : FnScope N_GW N_GW (defScope s_GW) := ⟨rfl, rfl, rfl, by decide +kernel, rfl, by decide +kernel, by decide +kernel⟩
theorem lk6s (a b c d e f : V) : (g6 a b c d e f).lookup (("sort_table" : String) : Str) = some b := by with_unfolding_all rfl
theorem lk6w (a b c d e f : V) : (g6 a b c d e f).lookup (("worths_of" : String) : Str) = none := by with_unfolding_all rfl
def spWorOf (K : PySem.W.Frag) (P : Program) (w : World) (G C : Addr) (sn : Nat) : Sp := fun vs H Q E => ∃ (Z : Hp) (x : Addr) (z : Str) (rs : List SRow) (ms : List MRow) (ru : List RRow) (roof : Nat), vs = [.ref x, .str z] ∧ GrOk K P w G Z H x rs ms ru roof ∧ (rs.map SRow.nm).Nodup ∧
  ((∃ r ∈ rs, z = SX.S r.nm ∧ ∀ u, Dp K H u (sT r).r → Q u H) ∨ ((∀ r ∈ rs, z ≠ SX.S r.nm) ∧ NoNm K C H (.str z) E))
abbrev s_least_tree : Stmt := top 3
abbrev N_least_tree : List Str := ["grammar", "sort", "least"]
abbrev P_least_tree : List Str := ["grammar", "sort"]
theorem sc_least_tree : FnScope N_least_tree P_least_tree (defScope s_least_tree) := ⟨rfl, rfl, rfl, by decide +kernel, rfl, by decide +kernel, by decide +kernel⟩
/-- what the least tree of a sort is -/
def IsLeast (ms : List MRow) (s : List Nat) (k : Nat) (t : PyData) : Prop := Bs ms k s = some t ∧ (∀ j < k, Bs ms j s = none) ∧ k ≤ 15
def spLeast1 (K : PySem.W.Frag) (P : Program) (w : World) (G C : Addr) : Sp := fun vs H Q E => ∃ (Z : Hp) (x : Addr) (z : Str) (rs : List SRow) (ms : List MRow) (ru : List RRow) (roof : Nat), vs = [.ref x, .str z] ∧ GrOk K P w G Z H x rs ms ru roof ∧ GFit rs ms ru roof ∧
  ((∃ r ∈ rs, z = SX.S r.nm ∧ (∀ (H' : Hp) (v : V) (k : Nat) (t : PyData), Same H H' → IsLeast ms r.nm k t → Dp K H' v t → Q v H') ∧ (∀ (H' : Hp), Same H H' → (∀ j, Bs ms j r.nm = none) → Q .non H')) ∨ ((∀ r ∈ rs, z ≠ SX.S r.nm) ∧ NoNm K C H (.str z) E))
section
variable {P : Program} {w : World} {K : PySem.W.Frag} {mg : Str → Option Value} {base : Heap} {G C : Addr}
theorem ok_worths_of {sn : Nat} {f : Addr} {fd : FuncData} (gc : GCls K G) (cfound_by : CalX P w K mg base (sn + 4) "found_by" (spFound K C sn) []) (F : L2.Fun K "worths_of" "Grammar.worths_of" s_GW f fd) : FnOk P w K mg base (L2.CX P w) (sn + 5) f fd N_GW (spWorOf K P w G C sn) := by
  refine F.okX sc_GW (fun vs H Q E h => ?_) (fun cdv A' outer s H vs Q E hr h => ?_)
  · obtain ⟨Z, x, z, rs, ms, ru, roof, rfl, _⟩ := h
    rfl
  · obtain ⟨Z, x, z, rs, ms, ru, roof, rfl, go, hnd, hq⟩ := h
    obtain ⟨dx, sd, md, rd, kd, rt, hx, ⟨kvs, hsd, htab⟩, _⟩ := go.ex
    refine ⟨_, pss_one (ps_ret (pe_cT cfound_by hr (by omega) (by rfl) (takes_of rfl rfl rfl rfl) (pa_cons (pv 1) (pa_cons (pe_fld (pv 0) (by rfl)) pa_nil)))), ?_⟩
    refine ⟨_, rfl, _, rfl, x, G, dx, _, .ref sd, rfl, hx, gc.c, gc.sort, lk6s _ _ _ _ _ _, .str z, sd, .str z, kvs, rfl, .str _, .str _ _, hsd, ?_⟩
    rcases hq with ⟨r, hr', rfl, q⟩ | ⟨hno, hE⟩
    · obtain ⟨u, e, hu⟩ := htab.val (t := sT r) (by rw [List.map_map]; exact hnd) (List.mem_map_of_mem hr')
      exact .inl ⟨SX.S r.nm, u, rfl, e, q u hu⟩
    · refine .inr ⟨fun z' ez => htab.noneS fun t ht => ?_, hE⟩
      obtain ⟨r, hr', rfl⟩ := List.mem_map.mp ht
      cases ez
      exact hno r hr'
theorem ok_least_tree {sn : Nat} {fW : Addr} {fdW : FuncData} (gc : GCls K G) (FW : FnOk P w K mg base (L2.CX P w) (sn + 5) fW fdW N_GW (spWorOf K P w G C sn)) (mW : Meth K G "worths_of" fW) (bW : Binds K fdW N_GW []) (cleast_trees : C8.Cal P w K mg base 2 "least_trees" (spLeasts K P w G) []) (D : Dd K mg "least_tree" s_least_tree P_least_tree) : CalX P w K mg base (sn + 6) "least_tree" (spLeast1 K P w G C) [] := by
  obtain ⟨f, fd, F, g, b⟩ := D.ex
  refine ⟨f, fd, _, [], F.okX sc_least_tree (fun vs H Q E h => ?_) (fun cdv A' outer s H vs Q E hr h => ?_), g, F.kp, b, .nil⟩
  · obtain ⟨Z, x, z, rs, ms, ru, roof, rfl, _⟩ := h
    rfl
  · obtain ⟨Z, x, z, rs, ms, ru, roof, rfl, go, gf, hq⟩ := h
    obtain ⟨dx, _, _, _, _, _, hx, _⟩ := go.ex
    refine ⟨_, (pss_cons (ps_expr (pe_methT (pv 0) gc.c mW FW bW (hr.mono (by omega)) (takes_of rfl rfl rfl rfl) (pa_cons (pv 1) pa_nil)))
        (pss_cons (ps_set (i := 2) sc_least_tree.nd rfl (Or.inl rfl) (C8.pe_c cleast_trees hr (by omega) (by rfl) (pa_cons (pv 0) pa_nil)))
        (pss_one (ps_ret (pe_ifExp (pt_cmp (pc_din (hu_of hr) (pv 1) (pv 2)) (by with_unfolding_all rfl)) (pe_ix (r := rIxT K) ix_tup (pe_dget (hu_of hr) (pv 2) (pv 1) (fun _ _ => rfl)) pe_int (fun _ _ => rfl)) pe_non))))), ?_⟩
    refine ⟨_, rfl, x, dx, _, rfl, hx, lk6w _ _ _ _ _ _, _, rfl, Z, x, z, rs, ms, ru, roof, rfl, go, gf.so.nd, ?_⟩
    rcases hq with ⟨r, hr', rfl, q1, q2⟩ | ⟨hno, hE⟩
    · refine .inl ⟨r, hr', rfl, fun u hu => ?_⟩
      refine ⟨_, rfl, Z, x, rs, ms, ru, roof, rfl, go, gf, fun H' d kvs L s1 nd hd tab I l4 hf => ?_⟩
      have hg := DGet.k (k := kS r.nm) hd
      refine ⟨_, rfl, _, rfl, d, _, rfl, hg, _, rfl, ?_⟩
      rw [tab_is tab I.nd r.nm]
      cases hl : Lk L r.nm with
      | none =>
        refine iteF ?_
        exact q2 H' s1 (I.done hf r.nm hl)
      | some e =>
        refine iteT ?_
        obtain ⟨v, h1, h2⟩ := tab_lk tab I.nd hl
        rw [h1] at hg
        obtain ⟨e', he, es, ek, et⟩ := lk_some hl
        obtain ⟨o1, o2, o3⟩ := I.ok e' he
        rw [es, ek] at o2
        rw [es, ek, et] at o1
        have p4 : 2 ^ L.length ≤ 2 ^ 4 := Nat.pow_le_pow_right (by decide) l4
        cases h2 with
        | tup hq hA =>
          cases hA with
          | cons a1 hA =>
            cases hA with
            | cons a2 hA =>
              cases hA
              cases a1
              exact ⟨_, rfl, _, rfl, d, _, rfl, hg, _, _, 1, _, rfl, rfl, hq, atI_nat (j := 1) rfl, q1 H' _ e.1 e.2 s1 ⟨o1, o2, by omega⟩ a2⟩
    · exact .inr ⟨hno, hE⟩
end
/-! ### d.get(k), a method's call -/
def tGetN (P : Program) (w : World) (r : V → List V → Hp → VK → Prop) (to : TE) (t : TA) : TE := fun σ H Q => to σ H fun x H1 => (∃ a kvs, x = .ref a ∧ DnA P w H1 a kvs) ∧ t σ H1 fun xs H2 => r x xs H2 Q
theorem pe_getN {X : Cx} {o e : Expr} {es : List Expr} {to : TE} {t : TA} {apos cpos : Pos} {r : V → List V → Hp → VK → Prop} (hm : MtR X "dict.get" r) (ho : PE X o to) (ha : PA X (e :: es) t)
    (hbase : attributeBase o "get" X.env (eval o X.env) = eval o X.env := by rfl)
    (hfew : ((backTo cpos (starEach (e :: es) X.env)).all (fun x => !x.1) && (backToKw cpos (keywordEach [] X.env)).all (fun x => x.1.isSome)
      && decide ((e :: es).length + ([] : List Keyword).length + (if ([] : List Keyword).isEmpty then 0 else 1) < 30)) = true := by rfl)
    (hline : (apos.endLine == cpos.line) = true := by rfl) (hs : starEach (e :: es) X.env = (false, eval e X.env) :: starEach es X.env := by rfl) (hplain : (backTo cpos (starEach es X.env)).any (·.1) = false := by rfl) :
    PE X (.Call (.Attribute o "get" apos) (e :: es) [] cpos) (tGetN X.prog X.w r to t) := by
  refine ⟨fun pins s σ H Q I h => ?_⟩
  refine wpAny_Call_method_late hbase hfew hline rfl (thn (ho.run pins s σ H _ I h) fun v s1 ⟨x, H1, I1, r1, ⟨a, kvs, ex, hd⟩, q1⟩ => ?_)
  have ra := r1
  subst ex
  obtain rfl : v = Value.ref a := ra
  obtain ⟨z1, z2, xs, o', es', ep, _, h1, h2, h3, h4, h5⟩ := dn_raw I1 hd
  have raw : DT.Raw s1.heap a es' ep := ⟨o', h1, h2, h3⟩
  refine ⟨"dict", "dict.get", PySem.F.plainAttrs_dict, PySem.F.slot_dict_get, PySem.F.type_dict_get, raw.typeIs, fun b eb => ?_, ?_⟩
  · cases eb
    exact ⟨o', h1, h2.2.1⟩
  have hA := ha.run cpos pins s1 σ H1 _ I1 q1
  rw [hs] at hA ⊢
  refine Calls.callWith_builtin (by show (false || (backTo cpos (starEach es X.env)).any (·.1)) = false; rw [hplain] <;> rfl) (Calls.evalArgs_plain ?_)
  exact thn hA fun us s2 ⟨vs, H2, I2, r2, q2⟩ => hm pins s2 σ H2 _ vs _ us Q I2 r1 r2 q2
/-! ### dicts keyed by tuples, more: stored over, get with a default, setdefault, not in -/
def putNE (k : NestedKey) (v : V) (p : NE) : NE := if p.1 = k then (p.1, p.2.1, v) else p
/-- stored: at its place, or at the end -/
def stN (kvs : List NE) (k : NestedKey) (b : Addr) (v : V) : List NE := if (valN kvs k).isSome = true then kvs.map (putNE k v) else kvs ++ [(k, b, v)]
theorem KN.snoc {kvs : List NE} {xs : List (NestedKey × Addr × Value)} (r : KN kvs xs) {k : NestedKey} {b : Addr} {v : V} {u : Value} (rv : RelV v u) : KN (kvs ++ [(k, b, v)]) (xs ++ [(k, b, u)]) := by
  induction r with
  | nil => exact .cons ⟨rfl, rfl, rv⟩ .nil
  | cons h t ih => exact .cons h ih
theorem KN.put {kvs : List NE} {xs : List (NestedKey × Addr × Value)} (r : KN kvs xs) {k : NestedKey} {v : V} {u : Value} (rv : RelV v u) : KN (kvs.map (putNE k v)) (xs.map (putAt k u)) := by
  induction r with
  | nil => exact .nil
  | @cons p q ps qs h t ih =>
    refine .cons ?_ ih
    obtain ⟨h1, h2, h3⟩ := h
    unfold putNE putAt
    by_cases e : p.1 = k
    · rw [if_pos e, if_pos (by rw [← h1]; exact e)]
      exact ⟨h1, h2, rv⟩
    · rw [if_neg e, if_neg (by rw [← h1]; exact e)]
      exact ⟨h1, h2, h3⟩
theorem KN.st {kvs : List NE} {xs : List (NestedKey × Addr × Value)} (r : KN kvs xs) {k : NestedKey} {b : Addr} {v : V} {u : Value} (rv : RelV v u) : KN (stN kvs k b v) (storedH xs k b u) := by
  unfold stN
  rcases r.val k with ⟨e1, e2⟩ | ⟨v', p, e1, e2, _⟩
  · rw [e1, storedH_new e2]
    exact r.snoc rv
  · rw [e1, storedH_old e2]
    exact r.put rv
theorem stN_len (kvs : List NE) (k : NestedKey) (b : Addr) (v : V) : (stN kvs k b v).length ≤ kvs.length + 1 := by
  unfold stN
  split
  · rw [List.length_map]
    omega
  · rw [List.length_append]
    exact Nat.le_refl _
theorem valN_put {k j : NestedKey} {v : V} : ∀ {kvs : List NE}, valN (kvs.map (putNE k v)) j = if j = k then (valN kvs k).map fun _ => v else valN kvs j
  | [] => by
    show none = if j = k then none else none
    split <;> rfl
  | p :: r => by
    show (if (putNE k v p).1 = j then some (putNE k v p).2.2 else valN (r.map (putNE k v)) j) = _
    rw [valN_put (kvs := r)]
    unfold putNE
    by_cases e : p.1 = k
    · rw [if_pos e]
      by_cases ej : p.1 = j
      · have ejk : j = k := ej.symm.trans e
        rw [if_pos ej, if_pos ejk]
        show some v = (if p.1 = k then some p.2.2 else _).map _
        rw [if_pos e]
        rfl
      · have ejk : ¬ j = k := fun z => ej (by rw [e, z])
        rw [if_neg ej, if_neg ejk, if_neg ejk]
        exact (if_neg ej).symm
    · rw [if_neg e]
      by_cases ej : p.1 = j
      · have ejk : ¬ j = k := fun z => e (by rw [ej, z])
        rw [if_pos ej, if_neg ejk]
        exact (if_pos ej).symm
      · rw [if_neg ej]
        by_cases ejk : j = k
        · rw [if_pos ejk, if_pos ejk]
          show _ = (if p.1 = k then some p.2.2 else _).map _
          rw [if_neg e]
        · rw [if_neg ejk, if_neg ejk]
          exact (if_neg ej).symm
theorem valN_st {kvs : List NE} {k j : NestedKey} {b : Addr} {v : V} : valN (stN kvs k b v) j = if j = k then some v else valN kvs j := by
  unfold stN
  cases e : valN kvs k with
  | some u =>
    show valN (if true = true then _ else _) j = _
    rw [if_pos rfl, valN_put, e]
    rfl
  | none =>
    show valN (if false = true then _ else kvs ++ [(k, b, v)]) j = _
    rw [if_neg (by decide), valN_app]
    by_cases ej : j = k
    · rw [if_pos ej, ej, e]
      show (if k = k then some v else none) = some v
      rw [if_pos rfl]
    · rw [if_neg ej]
      cases e2 : valN kvs j with
      | some u => rfl
      | none =>
        show (if k = j then some v else none) = none
        rw [if_neg (fun z => ej z.symm)]
theorem stN_keys {kvs : List NE} {k : NestedKey} {b : Addr} {v : V} : ∀ p ∈ stN kvs k b v, (∃ q ∈ kvs, p.1 = q.1 ∧ p.2.1 = q.2.1 ∧ (p.2.2 = q.2.2 ∨ (p.1 = k ∧ p.2.2 = v))) ∨ p = (k, b, v) := by
  intro p hp
  unfold stN at hp
  split at hp
  · obtain ⟨q, hq, rfl⟩ := List.mem_map.mp hp
    refine .inl ⟨q, hq, ?_⟩
    unfold putNE
    split
    · rename_i e
      exact ⟨rfl, rfl, .inr ⟨e, rfl⟩⟩
    · exact ⟨rfl, rfl, .inl rfl⟩
  · rcases List.mem_append.mp hp with hp | hp
    · exact .inl ⟨p, hp, rfl, rfl, .inl rfl⟩
    · exact .inr (List.mem_singleton.mp hp)
theorem KeysN.st {K : PySem.W.Frag} {H : Hp} {kvs : List NE} (h : KeysN K H kvs) {b : Addr} {d : PyData} {v : V} (hk : KeyN K H (.ref b) b d) : KeysN K H (stN kvs (keyD d) b v) := fun p hp => by
  rcases stN_keys p hp with ⟨q, hq, e1, e2, _⟩ | rfl
  · obtain ⟨d', h1, h2, h3, h4⟩ := h q hq
    rw [e1, e2]
    exact ⟨d', h1, h2, h3, h4⟩
  · exact ⟨d, rfl, hk.2.1, hk.2.2.1, hk.2.2.2⟩
section
variable {X : Cx}
theorem dn_write {pins : List (Addr × Obj)} {σ : L2.St} {H : Hp} {s : Shared} {a b : Addr} {kvs : List NE} {k : NestedKey} {v : V} {u : Value} {h' : Heap} {tk : Tok} (I : Inv X pins σ H s) (hd : H a = some (dnO X.prog X.w a kvs)) (hl : kvs.length < 10000) (z : (a == sysModules) = false) {xs : List (NestedKey × Addr × Value)} (r : KN kvs xs) (rv : RelV v u)
    (hm : h'.DictOfH (nestedKind X.prog X.w) a (storedH xs k b u)) (hs : Heap.SameBut a s.heap h') : Inv X pins σ (upd H a (dnO X.prog X.w a (stN kvs k b v))) { s with heap := h', toks := tk } := by
  obtain ⟨o, es, ep, g1, g2, g3, g4, _, g6⟩ := hm
  refine d_write I (by rw [hd]; trivial) hs ⟨o, g1⟩ (dnO_ok ⟨?_, z, _, o, es, ep, r.st rv, g1, g2, g3, g4, g6⟩)
  exact Nat.le_trans (stN_len ..) (Nat.le_trans (show kvs.length + 1 ≤ 10000 from hl) (by decide))
/-- d[k] = v -/
def rSetN2 (K : PySem.W.Frag) (P : Program) (w : World) : TSet := fun x y v H Q => ∃ (a b : Addr) (kvs : List NE) (d : PyData), x = .ref a ∧ H a = some (dnO P w a kvs) ∧ KeysN K H kvs ∧ KeyN K H y b d ∧ kvs.length < 10000 ∧ Q (upd H a (dnO P w a (stN kvs (keyD d) b v)))
theorem set_dn2 (hu : X.A.units + 9 < cLine) : PSet X (rSetN2 X.K X.prog X.w) := by
  intro pins s σ H x y v xv yv u Q I rx ry rv h
  obtain ⟨a, b, kvs, d, rfl, hd, hk, ⟨rfl, h1, h2, h3⟩, hl, q⟩ := h
  obtain rfl : xv = Value.ref a := rx
  obtain rfl : yv = Value.ref b := ry
  obtain ⟨z0, z, xs, r, dd⟩ := dn_of I (.inl hd) hk
  refine wpAny_setItem_heap (knd := nestedKind X.prog X.w) (k := keyD d) (hsz := by rw [← r.len]; exact z0) (by show X.A.units + 1 + 8 < cLine; omega) ⟨nst I h1 h2 rfl, h3⟩ dd fun h' hm hs => ?_
  exact ⟨_, dn_write I hd hl z r rv hm hs, q⟩
/-- not in -/
def rNotInN (K : PySem.W.Frag) (P : Program) (w : World) : R2 := fun y x H Q => ∃ (a b : Addr) (kvs : List NE) (d : PyData), x = .ref a ∧ DnA P w H a kvs ∧ KeysN K H kvs ∧ KeyN K H y b d ∧ Q (.bl (!(valN kvs (keyD d)).isSome)) H
theorem op_notInN (hu : X.A.units + 9 < cLine) : OpR X (compareOp .NotIn) (rNotInN X.K X.prog X.w) := by
  intro pins s σ H y x v u Q I ry rx h
  obtain ⟨a, b, kvs, d, rfl, hd, hk, ⟨rfl, h1, h2, h3⟩, q⟩ := h
  obtain rfl : v = Value.ref b := ry
  obtain rfl : u = Value.ref a := rx
  obtain ⟨_, z, xs, r, dd⟩ := dn_of I hd hk
  refine PyProof.Rows.wpAny_notIn_heap (knd := nestedKind X.prog X.w) (k := keyD d) (by show X.A.in1.units + 8 < cLine; show X.A.units + 1 + 8 < cLine; omega) ⟨nst I h1 h2 rfl, h3⟩ z dd ⟨.bl _, H, I.tok _, ?_, q⟩
  rcases r.val (keyD d) with ⟨e1, e2⟩ | ⟨v, p, e1, e2, _⟩
  · rw [e1, e2]
    rfl
  · rw [e1, e2]
    rfl
/-- d.get(k, z) -/
theorem mt_getN2 (hu : X.A.units + 9 < cLine) : MtR X "dict.get" (fun x xs H Q => ∃ (a b : Addr) (kvs : List NE) (d : PyData) (y z : V), x = .ref a ∧ xs = [y, z] ∧ DnA X.prog X.w H a kvs ∧ KeysN X.K H kvs ∧ KeyN X.K H y b d ∧ Q ((valN kvs (keyD d)).getD z) H) := by
  intro pn s σ H x xs v us Q I ex1 rxs h
  obtain ⟨a, b, kvs, d, y, z, rfl, rfl, hd, hk, ⟨rfl, h1, h2, h3⟩, q⟩ := h
  obtain rfl : v = Value.ref a := ex1
  obtain ⟨u, u2, rfl, ry, rz⟩ := vals2 rxs
  obtain rfl : u = Value.ref b := ry
  obtain ⟨_, z', ys, r, dd⟩ := dn_of I hd hk
  refine call_meetsIn PySem.F.slot_dict_get dd.typeIs PySem.F.entry_dict_get (PySem.F.args_dict_get_3 _ _ _) (meetsH_dict_get_default (nestedKind X.prog X.w) a b z' u2) ⟨by show X.A.units + 1 + 8 < cLine; omega, keyD d, ys, ⟨nst I h1 h2 rfl, h3⟩, dd, ?_⟩
  rcases r.val (keyD d) with ⟨e1, e2⟩ | ⟨v', p, e1, e2, rv⟩
  · rw [e1] at q
    rw [e2]
    exact ⟨z, H, I.tok _, rz, q⟩
  · rw [e1] at q
    rw [e2]
    exact ⟨v', H, I.tok _, rv, q⟩
/-- d.setdefault(k, z) -/
def rSetdN (K : PySem.W.Frag) (P : Program) (w : World) : V → List V → Hp → VK → Prop := fun x xs H Q => ∃ (a b : Addr) (kvs : List NE) (d : PyData) (y z : V), x = .ref a ∧ xs = [y, z] ∧ H a = some (dnO P w a kvs) ∧ KeysN K H kvs ∧ KeyN K H y b d ∧ kvs.length < 10000 ∧
    (∀ v, valN kvs (keyD d) = some v → Q v H) ∧ (valN kvs (keyD d) = none → Q z (upd H a (dnO P w a (stN kvs (keyD d) b z))))
theorem mt_setdN (hu : X.A.units + 9 < cLine) : MtR X "dict.setdefault" (rSetdN X.K X.prog X.w) := by
  intro pn s σ H x xs v us Q I ex1 rxs h
  obtain ⟨a, b, kvs, d, y, z, rfl, rfl, hd, hk, ⟨rfl, h1, h2, h3⟩, hl, q1, q2⟩ := h
  obtain rfl : v = Value.ref a := ex1
  obtain ⟨u, u2, rfl, ry, rz⟩ := vals2 rxs
  obtain rfl : u = Value.ref b := ry
  obtain ⟨z0, z', ys, r, dd⟩ := dn_of I (.inl hd) hk
  refine call_setdefault_heap (knd := nestedKind X.prog X.w) (k := keyD d) (by show X.A.units + 1 + 8 < cLine; omega) ⟨nst I h1 h2 rfl, h3⟩ z' dd (fun p hp => ?_) (fun hn h' hm hs => ?_) (by rw [← r.len]; exact z0)
  · rcases r.val (keyD d) with ⟨e1, e2⟩ | ⟨v', p', e1, e2, rv⟩
    · rw [e2] at hp
      cases hp
    · rw [e2] at hp
      cases hp
      exact ⟨v', H, I.tok _, rv, q1 v' e1⟩
  · rcases r.val (keyD d) with ⟨e1, e2⟩ | ⟨v', p', e1, e2, rv⟩
    · exact ⟨z, _, dn_write I hd hl z' r rz hm hs, rz, q2 e1⟩
    · rw [e2] at hn
      cases hn
end
/-! d.m(e, ..) of such a dict, by the method's name -/
def tDmN (P : Program) (w : World) (r : V → List V → Hp → VK → Prop) (to : TE) (t : TA) : TE := fun σ H Q => to σ H fun x H1 => (∃ a kvs, x = .ref a ∧ DnA P w H1 a kvs) ∧ t σ H1 fun xs H2 => r x xs H2 Q
theorem pe_setdN {X : Cx} {o e : Expr} {es : List Expr} {to : TE} {t : TA} {apos cpos : Pos} {r : V → List V → Hp → VK → Prop} (hm : MtR X "dict.setdefault" r) (ho : PE X o to) (ha : PA X (e :: es) t)
    (hbase : attributeBase o "setdefault" X.env (eval o X.env) = eval o X.env := by rfl)
    (hfew : ((backTo cpos (starEach (e :: es) X.env)).all (fun x => !x.1) && (backToKw cpos (keywordEach [] X.env)).all (fun x => x.1.isSome)
      && decide ((e :: es).length + ([] : List Keyword).length + (if ([] : List Keyword).isEmpty then 0 else 1) < 30)) = true := by rfl)
    (hline : (apos.endLine == cpos.line) = true := by rfl) (hs : starEach (e :: es) X.env = (false, eval e X.env) :: starEach es X.env := by rfl) (hplain : (backTo cpos (starEach es X.env)).any (·.1) = false := by rfl) :
    PE X (.Call (.Attribute o "setdefault" apos) (e :: es) [] cpos) (tDmN X.prog X.w r to t) := by
  refine ⟨fun pins s σ H Q I h => ?_⟩
  refine wpAny_Call_method_late hbase hfew hline rfl (thn (ho.run pins s σ H _ I h) fun v s1 ⟨x, H1, I1, r1, ⟨a, kvs, ex, hd⟩, q1⟩ => ?_)
  have ra := r1
  subst ex
  obtain rfl : v = Value.ref a := ra
  obtain ⟨z1, z2, xs, o', es', ep, _, h1, h2, h3, h4, h5⟩ := dn_raw I1 hd
  have raw : DT.Raw s1.heap a es' ep := ⟨o', h1, h2, h3⟩
  refine ⟨"dict", "dict.setdefault", PySem.F.plainAttrs_dict, PySem.F.slot_dict_setdefault, PySem.F.type_dict_setdefault, raw.typeIs, fun b eb => ?_, ?_⟩
  · cases eb
    exact ⟨o', h1, h2.2.1⟩
  have hA := ha.run cpos pins s1 σ H1 _ I1 q1
  rw [hs] at hA ⊢
  refine Calls.callWith_builtin (by show (false || (backTo cpos (starEach es X.env)).any (·.1)) = false; rw [hplain] <;> rfl) (Calls.evalArgs_plain ?_)
  exact thn hA fun us s2 ⟨vs, H2, I2, r2, q2⟩ => hm pins s2 σ H2 _ vs _ us Q I2 r1 r2 q2
/-! ### the law's own least trees -/
abbrev s__law_leasts : Stmt := top 71
abbrev N__law_leasts : List Str := ["_law_rows", "_law_best", "_law_size", "_law_making", "_law_kind", "_law_parts", "_law_some", "_law_left", "_law_one"]
abbrev P__law_leasts : List Str := ["_law_rows"]
theorem sc__law_leasts : FnScope N__law_leasts P__law_leasts (defScope s__law_leasts) := ⟨rfl, rfl, rfl, by decide +kernel, rfl, by decide +kernel, by decide +kernel⟩
structure Ll17 (mg : Str → Option Value) : Prop where
  range : mg "range" = none
  int : mg "int" = none
  len : mg "len" = none
  min : mg "min" = none
def kyD (s : List Nat) (k : Nat) : PyData := .tuple [strD s, .int (k : Nat)]
theorem ky_inj {s s' : List Nat} {k k' : Nat} (h : keyD (kyD s k) = keyD (kyD s' k')) : s = s' ∧ k = k' := by
  have h : NestedKey.tup [.text (SX.S s), .num ((k : Nat) : Int)] = NestedKey.tup [.text (SX.S s'), .num ((k' : Nat) : Int)] := h
  simp only [NestedKey.tup.injEq, List.cons.injEq, NestedKey.text.injEq, NestedKey.num.injEq, and_true] at h
  exact ⟨SX.S_inj h.1, by omega⟩
structure TBt (K : PySem.W.Frag) (H : Hp) (kvs : List NE) (B : Nat → List Nat → Option PyData) : Prop where
  ks : KeysN K H kvs
  no : ∀ k s, B k s = none → valN kvs (keyD (kyD s k)) = none
  ok : ∀ k s t, B k s = some t → ∃ v, valN kvs (keyD (kyD s k)) = some v ∧ Dp K H v t
  im : ∀ k s t, B k s = some t → imm t = true
theorem TBt.is {K : PySem.W.Frag} {H : Hp} {kvs : List NE} {B : Nat → List Nat → Option PyData} (h : TBt K H kvs B) (k : Nat) (s : List Nat) : (valN kvs (keyD (kyD s k))).isSome = (B k s).isSome := by
  cases e : B k s with
  | none =>
    rw [h.no k s e]
    rfl
  | some t =>
    obtain ⟨v, h1, _⟩ := h.ok k s t e
    rw [h1]
    rfl
theorem TBt.keep {K : PySem.W.Frag} {H H' : Hp} {kvs : List NE} {B : Nat → List Nat → Option PyData} (h : TBt K H kvs B) (k : KeepT H H') : TBt K H' kvs B := ⟨h.ks.keep k, h.no, fun j s t e => by
  obtain ⟨v, h1, h2⟩ := h.ok j s t e
  exact ⟨v, h1, dp_imm k h2 (h.im j s t e)⟩, h.im⟩
theorem TBt.same {K : PySem.W.Frag} {H H' : Hp} {kvs : List NE} {B : Nat → List Nat → Option PyData} (h : TBt K H kvs B) (s : Same H H') : TBt K H' kvs B := h.keep (KeepT.of s)
theorem bf_tr {ms : List MRow} (h2 : ∀ m ∈ ms, m.pt.length ≤ 2) {n k : Nat} {s : List Nat} {t : PyData} (h : Bf ms n k s = some t) : TrF k t ∧ k ≤ n := by
  rcases Nat.lt_or_ge n k with hlt | hge
  · rw [Bf_gt ms n k s hlt] at h
    cases h
  · rw [Bf_le ms n k s hge] at h
    exact ⟨bs_tr h2 k h, hge⟩
theorem cs_tr {ms : List MRow} (h2 : ∀ m ∈ ms, m.pt.length ≤ 2) {n : Nat} {m : MRow} (hm : m ∈ ms) {t : PyData} (h : t ∈ Cs (Bf ms n) (n + 1) m) : TrF (n + 1) t := by
  obtain ⟨zs, pk, en, rfl⟩ := cs_of h (by omega)
  refine ⟨m.nm, _, rfl, by rw [List.length_map, ← pk_len pk]; exact h2 m hm, fun p hp => ?_⟩
  obtain ⟨z, hz, rfl⟩ := List.mem_map.mp hp
  obtain ⟨x, _, hx⟩ := pk_get pk z hz
  have := sumZ_le hz
  exact (bf_tr h2 hx).1.mono (by omega)
/-- the trees of so many nodes of the makings gone through -/
def PsT (ms : List MRow) (n j : Nat) : List (List Nat × PyData) := Ps (Bf ms n) (ms.take j) (n + 1)
theorem psT_snoc (ms : List MRow) (n j : Nat) {m : MRow} (h : ms[j]? = some m) : PsT ms n (j + 1) = PsT ms n j ++ (Cs (Bf ms n) (n + 1) m).map fun t => (m.so, t) := by
  unfold PsT Ps
  rw [List.take_add_one, h, List.flatMap_append]
  simp
theorem Tb_nil (ms : List MRow) (n : Nat) : Tb ms n [] = Bf ms n := by
  funext k s
  unfold Tb
  by_cases h : k = n + 1
  · rw [if_pos h, h, Bf_gt ms n (n + 1) s (by omega)]
    rfl
  · rw [if_neg h]
theorem Tb_all (ms : List MRow) (n : Nat) : Tb ms n (PsT ms n ms.length) = Bf ms (n + 1) := by
  funext k s
  unfold Tb PsT
  rw [List.take_length]
  conv => rhs; unfold Bf
theorem Tb_lt (ms : List MRow) (n : Nat) (L : List (List Nat × PyData)) {k : Nat} (h : k ≠ n + 1) (s : List Nat) : Tb ms n L k s = Bf ms n k s := by
  unfold Tb
  rw [if_neg h]
theorem ofS_snoc (s s' : List Nat) (L : List (List Nat × PyData)) (t : PyData) : ofS s (L ++ [(s', t)]) = if s' = s then ofS s L ++ [t] else ofS s L := by
  unfold ofS
  rw [List.filter_append, List.map_append]
  by_cases h : s' = s
  · rw [if_pos h]
    simp [h]
  · rw [if_neg h]
    simp [h]
def A1 (m : MRow) (n : Nat) : List PyData := if m.pt.length = 0 ∧ n = 1 then [trD m.nm []] else []
def A2 (B : Nat → List Nat → Option PyData) (m : MRow) (n : Nat) : List PyData := match m.pt with
  | [p] => match B (n - 1) p with
    | some t => [trD m.nm [t]]
    | none => []
  | _ => []
def A3 (B : Nat → List Nat → Option PyData) (m : MRow) (n r : Nat) : List PyData := match m.pt with
  | [p, q] => (List.range r).flatMap fun i => match B (i + 1) p, B (n - 1 - (i + 1)) q with
    | some t, some u => [trD m.nm [t, u]]
    | _, _ => []
  | _ => []
theorem cs_parts (B : Nat → List Nat → Option PyData) {m : MRow} (n : Nat) (h2 : m.pt.length ≤ 2) : Cs B n m = A1 m n ++ A2 B m n ++ A3 B m n (n - 2) := by
  unfold Cs A1 A2 A3
  match m.pt, h2 with
  | [], _ => simp
  | [p], _ =>
    simp
    all_goals rfl
  | [p, q], _ =>
    simp
    all_goals rfl
theorem a3_succ {B : Nat → List Nat → Option PyData} {m : MRow} {n r : Nat} {p q : List Nat} (e : m.pt = [p, q]) : A3 B m n (r + 1) = A3 B m n r ++ match B (r + 1) p, B (n - 1 - (r + 1)) q with
    | some t, some u => [trD m.nm [t, u]]
    | _, _ => [] := by
  unfold A3
  rw [e]
  show List.flatMap _ (List.range (r + 1)) = List.flatMap _ (List.range r) ++ _
  rw [List.range_succ, List.flatMap_append]
  simp
theorem a_len {B : Nat → List Nat → Option PyData} {m : MRow} {n r : Nat} : (A1 m n ++ A2 B m n ++ A3 B m n r).length ≤ 2 + r := by
  have h1 : (A1 m n).length ≤ 1 := by
    unfold A1
    split <;> simp
  have h2 : (A2 B m n).length ≤ 1 := by
    unfold A2
    split
    · split <;> simp
    · simp
  have h3 : (A3 B m n r).length ≤ r := by
    unfold A3
    split
    · rename_i p q _
      induction r with
      | zero => simp
      | succ r ih =>
        rw [List.range_succ, List.flatMap_append, List.length_append]
        have : ∀ (x : Option PyData) (y : Option PyData), (match x, y with | some t, some u => [trD m.nm [t, u]] | _, _ => ([] : List PyData)).length ≤ 1 := fun x y => by
          cases x <;> cases y <;> simp
        rw [List.flatMap_cons, List.flatMap_nil, List.append_nil]
        have h5 := this (B (r + 1) p) (B (n - 1 - (r + 1)) q)
        exact Nat.add_le_add ih h5
    · simp
  rw [List.length_append, List.length_append]
  omega
theorem a_imm {B : Nat → List Nat → Option PyData} {m : MRow} {n r : Nat} (hB : ∀ k s t, B k s = some t → imm t = true) : immAll (A1 m n ++ A2 B m n ++ A3 B m n r) = true := immAll_of2 fun x hx => by
  rcases List.mem_append.mp hx with hx | hx
  · rcases List.mem_append.mp hx with hx | hx
    · unfold A1 at hx
      split at hx
      · rw [List.mem_singleton.mp hx]
        rfl
      · cases hx
    · unfold A2 at hx
      split at hx
      · split at hx
        · rename_i t e
          rw [List.mem_singleton.mp hx]
          show (true && (true && ((imm t && true) && true))) = true
          rw [hB _ _ _ e]
          rfl
        · cases hx
      · cases hx
  · unfold A3 at hx
    split at hx
    · obtain ⟨i, _, hx⟩ := List.mem_flatMap.mp hx
      split at hx
      · rename_i t u e1 e2
        rw [List.mem_singleton.mp hx]
        show (true && (true && ((imm t && (imm u && true)) && true))) = true
        rw [hB _ _ _ e1, hB _ _ _ e2]
        rfl
      · cases hx
    · cases hx
def AllT (ms : List MRow) (n : Nat) (L : List (List Nat × PyData)) : Prop := ∀ e ∈ L, TrF (n + 1) e.2
theorem tb_tr {ms : List MRow} (h2 : ∀ m ∈ ms, m.pt.length ≤ 2) {n k : Nat} {L : List (List Nat × PyData)} (hL : AllT ms n L) {s : List Nat} {t : PyData} (h : Tb ms n L k s = some t) : TrF (n + 1) t := by
  unfold Tb at h
  by_cases e : k = n + 1
  · rw [if_pos e] at h
    obtain ⟨x, hx, rfl⟩ := List.mem_map.mp (minO_some h).1
    exact hL x (List.mem_filter.mp hx).1
  · rw [if_neg e] at h
    obtain ⟨h1, h3⟩ := bf_tr h2 h
    exact h1.mono (by omega)
theorem rep_bool {l : Addr} {v : V} {H : Hp} {Q : VK} (b : Bool) (hl : H l = some (.lst [v])) (q : ∀ p, H p = none → Q (.ref p) (upd H p (.lst (if b then [v] else [])))) : rRep (.ref l) (.int (if b = true then 1 else 0)) H Q := by
  refine ⟨l, _, [v], rfl, rfl, hl, by cases b <;> decide, by cases b <;> decide, ?_, fun p np => ?_⟩
  · cases b
    · show 0 ≤ sizeLine
      decide
    · show 1 ≤ sizeLine
      decide
  · have e : (List.replicate (if b = true then (1 : Int) else 0).toNat [v]).flatten = if b then [v] else [] := by cases b <;> rfl
    rw [e]
    exact q p np
theorem a1_dp {K : PySem.W.Frag} {H : Hp} {v : V} {m : MRow} {n : Nat} (b : Bool) (hb : b = true ↔ (m.pt.length = 0 ∧ n = 1)) (h : Dp K H v (trD m.nm [])) : DpAll K H (if b then [v] else []) (A1 m n) := by
  unfold A1
  cases b with
  | true =>
    rw [if_pos (hb.mp rfl)]
    exact .cons h .nil
  | false =>
    show DpAll K H [] _
    rw [if_neg (fun z => by have := hb.mpr z; cases this)]
    exact .nil
theorem key_at {K : PySem.W.Frag} {H : Hp} {tk : Addr} {p : List Nat} {n : Int} {k : Nat} (h : SqT K H tk [.str (SX.S p), .int n]) (e : n = ((k : Nat) : Int)) : KeyN K H (.ref tk) tk (kyD p k) := by
  subst e
  exact ⟨rfl, .tup h (.cons (.str _) (.cons (.int _) .nil)), rfl, Nat.le_of_ble_eq_true rfl⟩
theorem TBt.put {K : PySem.W.Frag} {H : Hp} {kvs : List NE} {B B' : Nat → List Nat → Option PyData} (h : TBt K H kvs B) {s0 : List Nat} {k0 : Nat} {tk : Addr} {v : V} {t : PyData} (hk : KeyN K H (.ref tk) tk (kyD s0 k0)) (hv : Dp K H v t) (hi : imm t = true) (e : B' k0 s0 = some t) (n : ∀ k s, ¬ (s = s0 ∧ k = k0) → B' k s = B k s) : TBt K H (stN kvs (keyD (kyD s0 k0)) tk v) B' := by
  refine ⟨h.ks.st hk, fun k s hn => ?_, fun k s u hs => ?_, fun k s u hs => ?_⟩
  · by_cases z : s = s0 ∧ k = k0
    · obtain ⟨rfl, rfl⟩ := z
      rw [e] at hn
      cases hn
    · rw [valN_st, if_neg (fun w => z (ky_inj w))]
      exact h.no k s ((n k s z).symm.trans hn)
  · by_cases z : s = s0 ∧ k = k0
    · obtain ⟨rfl, rfl⟩ := z
      rw [e] at hs
      cases hs
      exact ⟨v, by rw [valN_st, if_pos rfl], hv⟩
    · obtain ⟨v', h1, h2⟩ := h.ok k s u ((n k s z).symm.trans hs)
      exact ⟨v', by rw [valN_st, if_neg (fun w => z (ky_inj w))]; exact h1, h2⟩
  · by_cases z : s = s0 ∧ k = k0
    · obtain ⟨rfl, rfl⟩ := z
      rw [e] at hs
      cases hs
      exact hi
    · exact h.im k s u ((n k s z).symm.trans hs)
def spLeastsL (K : PySem.W.Frag) (P : Program) (w : World) : Sp := fun vs H Q _ => ∃ (lm : Addr) (mv : List V) (ms : List MRow), vs = [.ref lm] ∧ H lm = some (.lst mv) ∧ DpAll K H mv (ms.map MRow.d) ∧ ms.length ≤ 8 ∧ (∀ m ∈ ms, m.pt.length ≤ 2) ∧
  ∀ (H' : Hp) (d : Addr) (kvs : List NE), Same H H' → H d = none → H' d = some (dnO P w d kvs) → TBt K H' kvs (Bf ms 15) → Q (.ref d) H'
section
variable {P : Program} {w : World} {K : PySem.W.Frag} {mg : Str → Option Value} {base : Heap} {G : Addr}
theorem ok_leasts (T : Ll17 mg) (D : Dd K mg "_law_leasts" s__law_leasts P__law_leasts) : C8.Cal P w K mg base 1 "_law_leasts" (spLeastsL K P w) [] := by
  refine D.cal sc__law_leasts (fun vs H Q E h => ?_) (fun f cdv A outer s H vs Q E hr h => ?_)
  · obtain ⟨lm, mv, ms, rfl, _⟩ := h
    rfl
  · obtain ⟨lm, mv, ms, rfl, hlm, dm, m8, h2, q⟩ := h
    refine ⟨_, (pss_cons (ps_set (i := 1) sc__law_leasts.nd rfl (Or.inl rfl) (show PE _ _ (tDNewN P w) from pe_dnewN))
        (pss_cons (ps_for PassesOwn.never rfl (pi_range2 rfl T.range (pa_cons pe_int (pa_cons pe_int pa_nil))) (pg_name (i := 2) sc__law_leasts.nd rfl (Or.inl rfl))
          (pss_one (ps_for PassesOwn.never rfl (pi_list (pv 0)) (pg_tup rfl (pgs_cons (pg_name (i := 3) sc__law_leasts.nd rfl (Or.inl rfl)) (pgs_cons (pg_name (i := 4) sc__law_leasts.nd rfl (Or.inl rfl)) (pgs_cons (pg_name (i := 5) sc__law_leasts.nd rfl (Or.inl rfl)) pgs_nil))))
          (C8.pss_cut (ps_set (i := 6) sc__law_leasts.nd rfl (Or.inl rfl) (pe_op op_rep (pe_lst (pa_cons (pe_tup (pa_cons (pv 3) (pa_cons pe_int (pa_cons (pe_tup pa_nil) pa_nil)))) pa_nil)) (pe_callTy call_int1 (by rfl) T.int (by decide +kernel) (pa_cons (pe_and (pe_cmpR op_eq (pe_callB call_len_seq (by rfl) T.len PySem.boot_len (pa_cons (pv 5) pa_nil)) pe_int (nomark _)) (pe_one (pe_cmpR op_eq (pv 2) pe_int (nomark _)))) pa_nil))))
        (C8.pss_cut (ps_if (PW.pt (pw_and (pt_cmpR op_eq (pe_callB call_len_seq (by rfl) T.len PySem.boot_len (pa_cons (pv 5) pa_nil)) pe_int (nomark _)) (pw_and1 (pt_cmpR (op_inN (hu9 (hu65 hr))) (pe_tup (pa_cons (pe_ix (r := rIxT K) ix_tup (pv 5) pe_int (fun _ _ => rfl)) (pa_cons (pe_op op_sub (pv 2) pe_int) pa_nil))) (pv 1) (by with_unfolding_all rfl)))))
          (pss_one (ps_expr (pe_bm PySem.F.plainAttrs_list PySem.F.slot_list_append PySem.F.type_list_append mt_append (pv 6) (pa_cons (pe_tup (pa_cons (pv 3) (pa_cons pe_int (pa_cons (pe_tup (pa_cons (show PE _ _ (tDGetN K P w _ _) from pe_dgetN (hu9 (hu65 hr)) (pv 1) (pe_tup (pa_cons (pe_ix (r := rIxT K) ix_tup (pv 5) pe_int (fun _ _ => rfl)) (pa_cons (pe_op op_sub (pv 2) pe_int) pa_nil))) (fun _ _ => rfl)) pa_nil)) pa_nil)))) pa_nil))))
          pss_nil)
        (C8.pss_cut (ps_for PassesOwn.never rfl (pi_range2 rfl T.range (pa_cons pe_int (pa_cons (pe_ifExp (pt_cmpR op_eq (pe_callB call_len_seq (by rfl) T.len PySem.boot_len (pa_cons (pv 5) pa_nil)) pe_int (nomark _)) (pe_op op_sub (pv 2) pe_int) pe_int) pa_nil))) (pg_name (i := 7) sc__law_leasts.nd rfl (Or.inl rfl))
          (pss_one (ps_if (PW.pt (pw_and (pt_cmpR (op_inN (hu9 (hu65 hr))) (pe_tup (pa_cons (pe_ix (r := rIxT K) ix_tup (pv 5) pe_int (fun _ _ => rfl)) (pa_cons (pv 7) pa_nil))) (pv 1) (by with_unfolding_all rfl)) (pw_and1 (pt_cmpR (op_inN (hu9 (hu65 hr))) (pe_tup (pa_cons (pe_ix (r := rIxT K) ix_tup (pv 5) pe_int (fun _ _ => rfl)) (pa_cons (pe_op op_sub (pe_op op_sub (pv 2) pe_int) (pv 7)) pa_nil))) (pv 1) (by with_unfolding_all rfl)))))
          (pss_one (ps_expr (pe_bm PySem.F.plainAttrs_list PySem.F.slot_list_append PySem.F.type_list_append mt_append (pv 6) (pa_cons (pe_tup (pa_cons (pv 3) (pa_cons pe_int (pa_cons (pe_tup (pa_cons (show PE _ _ (tDGetN K P w _ _) from pe_dgetN (hu9 (hu65 hr)) (pv 1) (pe_tup (pa_cons (pe_ix (r := rIxT K) ix_tup (pv 5) pe_int (fun _ _ => rfl)) (pa_cons (pv 7) pa_nil))) (fun _ _ => rfl)) (pa_cons (show PE _ _ (tDGetN K P w _ _) from pe_dgetN (hu9 (hu65 hr)) (pv 1) (pe_tup (pa_cons (pe_ix (r := rIxT K) ix_tup (pv 5) pe_int (fun _ _ => rfl)) (pa_cons (pe_op op_sub (pe_op op_sub (pv 2) pe_int) (pv 7)) pa_nil))) (fun _ _ => rfl)) pa_nil))) pa_nil)))) pa_nil))))
          pss_nil)))
        (pss_one (ps_for PassesOwn.never rfl (pi_list (pv 6)) (pg_name (i := 8) sc__law_leasts.nd rfl (Or.inl rfl))
          (pss_one (ps_asg (pe_callB (r := rMin2 K) (cr_min2 rfl (hu65 hr)) (by rfl) T.min (by decide +kernel) (pa_cons (pe_getN (mt_getN2 (hu9 (hu65 hr))) (pv 1) (pa_cons (pe_tup (pa_cons (pv 4) (pa_cons (pv 2) pa_nil))) (pa_cons (pv 8) pa_nil))) (pa_cons (pv 8) pa_nil))) (pg_sub (pv 1) (pe_tup (pa_cons (pv 4) (pa_cons (pv 2) pa_nil))) (show PSet _ (rSetN2 K P w) from set_dn2 (hu9 (hu65 hr))))))))))))))
        (pss_one (ps_ret (pv 1))))), ?_⟩
    refine fun d nd => ?_
    have s1 := same_upd (o := dnO P w d []) nd
    have hd0 : (upd H d (dnO P w d [])) d = some (dnO P w d []) := upd_same
    have tb0 : TBt K (upd H d (dnO P w d [])) [] (Bf ms 0) := ⟨KeysN.nil, fun _ _ _ => rfl, fun k s t e => (by cases e), fun k s t e => (by cases e)⟩
    generalize upd H d (dnO P w d []) = H0 at s1 hd0 tb0 ⊢
    refine ⟨1, 16, rfl, by decide, ?_⟩
    refine for_range (lo := 1) (n := Int.toNat (16 - 1)) (fun i σ Y => ∃ (y2 y3 y4 y5 y6 y7 y8 : Option V) (kvs : List NE), σ = [some (.ref lm), some (.ref d), y2, y3, y4, y5, y6, y7, y8] ∧ Same H Y ∧ Y d = some (dnO P w d kvs) ∧ TBt K Y kvs (Bf ms i) ∧ kvs.length ≤ 120 * i)
      ⟨_, _, _, _, _, _, _, [], rfl, s1, hd0, tb0, Nat.zero_le _⟩ ?_ ?_
    · rintro i σ Y hi ⟨y2, y3, y4, y5, y6, y7, y8, kvs, rfl, sY, hd, tb, kl⟩
      have hi15 : i < 15 := hi
      rw [show (1 : Int) + (i : Int) = ((i + 1 : Nat) : Int) by omega]
      refine ⟨_, rfl, lm, rfl, ⟨_, SqL.of (sY _ _ hlm)⟩, ?_⟩
      have lmv := dpAll_len dm
      rw [List.length_map] at lmv
      refine for_it walk_list (fun j σ Y' => ∃ (y3 y4 y5 y6 y7 y8 : Option V) (kvs : List NE), σ = [some (.ref lm), some (.ref d), some (.int ((i + 1 : Nat) : Int)), y3, y4, y5, y6, y7, y8] ∧ Same H Y' ∧ Y' d = some (dnO P w d kvs) ∧ TBt K Y' kvs (Tb ms i (PsT ms i j)) ∧ kvs.length ≤ 120 * i + 15 * j)
        ⟨y3, y4, y5, y6, y7, y8, kvs, rfl, sY, hd, by rw [show PsT ms i 0 = [] from rfl, Tb_nil]; exact tb, kl⟩ (fun j σ Y' _ ⟨_, _, _, _, _, _, _, _, b, _⟩ => SqL.of (b _ _ hlm)) ?_ ?_
      · rintro j v σ Y0 Y' hj ⟨y3, y4, y5, y6, y7, y8, kvs, rfl, sY, hd, tb, kl⟩ ⟨rfl, hv⟩
        have hv : mv[j]? = some v := hv
        obtain ⟨dd, hdd, hvd⟩ := dpAll_at (dpAll_same sY dm) hv
        rw [List.getElem?_map] at hdd
        obtain ⟨m, hm, rfl⟩ : ∃ m, ms[j]? = some m ∧ dd = m.d := by
          cases h : ms[j]? with
          | none => rw [h] at hdd; cases hdd
          | some e => rw [h] at hdd; exact ⟨e, rfl, (Option.some.inj hdd).symm⟩
        have hmm := List.mem_of_getElem? hm
        have pt2 := h2 m hmm
        obtain ⟨q', pp, rfl, hq, hpp⟩ := mrow_at hvd
        refine ⟨q', _, rfl, hq, rfl, _, _, rfl, _, _, rfl, _, _, rfl, rfl, ?_⟩
        -- a leaf
        have look : ∀ (k : Nat) (s : List Nat), k ≠ i + 1 → Tb ms i (PsT ms i j) k s = Bf ms i k s := fun k s h => Tb_lt ms i _ h s
        refine ⟨fun σ U => ∃ (lf : Addr) (fs : List V), σ = [some (.ref lm), some (.ref d), some (.int ((i + 1 : Nat) : Int)), some (.str (SX.S m.nm)), some (.str (SX.S m.so)), some (.ref pp), some (.ref lf), y7, y8] ∧ Same Y' U ∧ Y' lf = none ∧ U lf = some (.lst fs) ∧ DpAll K U fs (A1 m (i + 1)), ?_, ?_⟩
        · refine ⟨_, rfl, by show 0 ≤ sizeLine; decide, fun t0 n0 => ⟨by show 3 ≤ sizeLine; decide, fun t1 n1 => ⟨by show 1 ≤ sizeLine; decide, fun l0 n2 => ?_⟩⟩⟩
          have w0 := same_upd (o := .tup []) n0
          have w1 := same_upd (o := .tup [.str (SX.S m.nm), .int 0, .ref t0]) n1
          have w2 := same_upd (o := .lst [.ref t1]) n2
          have hl0 : (upd (upd (upd Y' t0 (.tup [])) t1 (.tup [.str (SX.S m.nm), .int 0, .ref t0])) l0 (.lst [.ref t1])) l0 = some (.lst [.ref t1]) := upd_same
          have ht1 : Dp K (upd (upd (upd Y' t0 (.tup [])) t1 (.tup [.str (SX.S m.nm), .int 0, .ref t0])) l0 (.lst [.ref t1])) (.ref t1) (trD m.nm []) := .tup (SqT.of (w2 _ _ upd_same)) (.cons (.str _) (.cons (.int _) (.cons (.tup (SqT.of ((w1.trans w2) _ _ upd_same)) .nil) .nil)))
          have w02 := (w0.trans w1).trans w2
          generalize upd (upd (upd Y' t0 (.tup [])) t1 (.tup [.str (SX.S m.nm), .int 0, .ref t0])) l0 (.lst [.ref t1]) = U3 at w02 hl0 ht1 ⊢
          have lpp : (nmV m.pt).length = m.pt.length := nmV_len _
          refine ⟨_, rfl, pp, nmV m.pt, rfl, .inr (sqT_s w02 hpp), rfl, _, rfl, ?_⟩
          by_cases h0 : m.pt.length = 0
          · have e0 : decide (V.int (((nmV m.pt).length : Nat) : Int) = V.int 0) = true := decide_eq_true (by rw [lpp, h0]; rfl)
            rw [e0]
            refine iteT ?_
            refine ⟨_, rfl, rfl, .inr ⟨_, rfl, ?_⟩⟩
            refine rep_bool _ hl0 fun l1 nl1 => ?_
            have w3 := same_upd (o := .lst (if decide (V.int ((i + 1 : Nat) : Int) = V.int 1) then [V.ref t1] else [])) nl1
            refine ⟨l1, _, rfl, w02.trans w3, w02.free nl1, upd_same, a1_dp _ ?_ (dp_same w3 ht1)⟩
            rw [decide_eq_true_eq]
            exact ⟨fun z => ⟨h0, by have := V.int.inj z; omega⟩, fun z => by rw [z.2]; rfl⟩
          · have e0 : decide (V.int (((nmV m.pt).length : Nat) : Int) = V.int 0) = false := decide_eq_false (fun z => h0 (by have := V.int.inj z; omega))
            rw [e0]
            refine iteF (.inr ⟨_, rfl, ?_⟩)
            refine rep_bool false hl0 fun l1 nl1 => ?_
            have w3 := same_upd (o := .lst (if false then [V.ref t1] else [])) nl1
            exact ⟨l1, _, rfl, w02.trans w3, w02.free nl1, upd_same, a1_dp false ⟨fun z => (nomatch z), fun z => absurd z.1 h0⟩ (dp_same w3 ht1)⟩
        rintro σ U ⟨lf, fs, rfl, sU, nlf, hf, df⟩
        have ndl : d ≠ lf := ne_of_none hd nlf
        have hdU := sU _ _ hd
        have tbU := tb.same sU
        -- one part
        refine ⟨fun σ U => ∃ (fs : List V), σ = [some (.ref lm), some (.ref d), some (.int ((i + 1 : Nat) : Int)), some (.str (SX.S m.nm)), some (.str (SX.S m.so)), some (.ref pp), some (.ref lf), y7, y8] ∧ Same Y' U ∧ U lf = some (.lst fs) ∧ DpAll K U fs (A1 m (i + 1) ++ A2 (Bf ms i) m (i + 1)), ?_, ?_⟩
        · have lpp : (nmV m.pt).length = m.pt.length := nmV_len _
          refine ⟨_, rfl, pp, nmV m.pt, rfl, .inr (sqT_s sU hpp), rfl, _, rfl, ?_⟩
          by_cases h1 : m.pt.length = 1
          · obtain ⟨p, ep⟩ : ∃ p, m.pt = [p] := by
              match m.pt, h1 with
              | [p], _ => exact ⟨p, rfl⟩
            rw [ep] at hpp
            have e0 : decide (V.int (((nmV m.pt).length : Nat) : Int) = V.int 1) = true := decide_eq_true (by rw [lpp, h1]; rfl)
            rw [e0]
            refine iteT ?_
            have ei : ((i + 1 : Nat) : Int) - 1 = ((i : Nat) : Int) := by omega
            have lk0 := look i p (by omega)
            refine ⟨_, rfl, pp, _, 0, _, rfl, rfl, sqT_s sU hpp, atI_nat (j := 0) rfl, _, rfl, _, _, rfl, rfl, by show 2 ≤ sizeLine; decide, fun tk ntk => ?_⟩
            have w1 := same_upd (o := .tup [.str (SX.S p), .int (((i + 1 : Nat) : Int) - 1)]) ntk
            have k1 : SqT K (upd U tk (.tup [.str (SX.S p), .int (((i + 1 : Nat) : Int) - 1)])) tk [.str (SX.S p), .int (((i + 1 : Nat) : Int) - 1)] := SqT.of upd_same
            generalize upd U tk (.tup [.str (SX.S p), .int (((i + 1 : Nat) : Int) - 1)]) = U1 at w1 k1 ⊢
            have tb1 := tbU.same w1
            refine ⟨_, rfl, d, tk, kvs, kyD p i, rfl, .inl (w1 _ _ hdU), tb1.ks, key_at k1 ei, _, rfl, ?_⟩
            rw [tb1.is i p, lk0]
            have ea : A2 (Bf ms i) m (i + 1) = match Bf ms i i p with
                | some t => [trD m.nm [t]]
                | none => [] := by
              unfold A2
              rw [ep]
              rfl
            cases hb : Bf ms i i p with
            | none =>
              refine iteF ?_
              rw [hb] at ea
              exact ⟨fs, rfl, sU.trans w1, w1 _ _ hf, by rw [ea, List.append_nil]; exact dpAll_same w1 df⟩
            | some t =>
              refine iteT ?_
              rw [hb] at ea
              refine ⟨_, rfl, .inl ⟨rfl, _, SqL.of (w1 _ _ hf)⟩, ?_⟩
              refine ⟨_, rfl, _, rfl, _, rfl, pp, _, 0, _, rfl, rfl, sqT_s (sU.trans w1) hpp, atI_nat (j := 0) rfl, _, rfl, _, _, rfl, rfl, by show 2 ≤ sizeLine; decide, fun tk2 ntk2 => ?_⟩
              have w2 := same_upd (o := .tup [.str (SX.S p), .int (((i + 1 : Nat) : Int) - 1)]) ntk2
              have k2 : SqT K (upd U1 tk2 (.tup [.str (SX.S p), .int (((i + 1 : Nat) : Int) - 1)])) tk2 [.str (SX.S p), .int (((i + 1 : Nat) : Int) - 1)] := SqT.of upd_same
              generalize upd U1 tk2 (.tup [.str (SX.S p), .int (((i + 1 : Nat) : Int) - 1)]) = U2 at w2 k2 ⊢
              have tb2 := tb1.same w2
              obtain ⟨v, hv1, hv2⟩ := tb2.ok i p t (lk0.trans hb)
              refine ⟨d, tk2, kvs, kyD p i, v, rfl, .inl (w2 _ _ (w1 _ _ hdU)), tb2.ks, key_at k2 ei, hv1, ?_⟩
              refine ⟨by show 1 ≤ sizeLine; decide, fun t1 n1 => ?_⟩
              have w3 := same_upd (o := .tup [v]) n1
              have k3 : SqT K (upd U2 t1 (.tup [v])) t1 [v] := SqT.of upd_same
              generalize upd U2 t1 (.tup [v]) = U3 at w3 k3 ⊢
              refine ⟨by show 3 ≤ sizeLine; decide, fun t2 n2 => ?_⟩
              have w4 := same_upd (o := .tup [.str (SX.S m.nm), .int 0, .ref t1]) n2
              have dT : Dp K (upd U3 t2 (.tup [.str (SX.S m.nm), .int 0, .ref t1])) (.ref t2) (trD m.nm [t]) := .tup (SqT.of upd_same) (.cons (.str _) (.cons (.int _) (.cons (.tup (sqT_s w4 k3) (.cons (dp_same (w3.trans w4) hv2) .nil)) .nil)))
              generalize upd U3 t2 (.tup [.str (SX.S m.nm), .int 0, .ref t1]) = U4 at w4 dT ⊢
              have w14 := (w1.trans w2).trans (w3.trans w4)
              have hf4 := w14 _ _ hf
              have iT : imm (trD m.nm [t]) = true := by
                have := (bf_tr h2 hb).1.imm
                show (true && (true && ((imm t && true) && true))) = true
                rw [this]
                rfl
              have lfs := dpAll_len df
              have a1l : (A1 m (i + 1)).length ≤ 1 := by
                unfold A1
                split <;> simp
              refine ⟨lf, fs, _, rfl, rfl, hf4, small1000 (by omega), fs ++ [.ref t2], rfl, Same.at_ (sU.trans w14) nlf, upd_same, ?_⟩
              rw [ea]
              refine dpAll_appI (dpAll_imm ((KeepT.of w14).trans (KeepT.at_ hf4 lst_no)) df (immAll_of2 fun x hx => ?_)) (.cons (dp_imm (KeepT.at_ hf4 lst_no) dT iT) .nil)
              unfold A1 at hx
              split at hx
              · rw [List.mem_singleton.mp hx]
                rfl
              · cases hx
          · have e0 : decide (V.int (((nmV m.pt).length : Nat) : Int) = V.int 1) = false := decide_eq_false (fun z => h1 (by have := V.int.inj z; omega))
            rw [e0]
            refine iteF ?_
            refine ⟨fs, rfl, sU, hf, ?_⟩
            have : A2 (Bf ms i) m (i + 1) = [] := by
              unfold A2
              match m.pt, h1 with
              | [], _ => rfl
              | [_], h1 => exact absurd rfl h1
              | _ :: _ :: _, _ => rfl
            rw [this, List.append_nil]
            exact df
        rintro σ U ⟨fs, rfl, sU, hf, df⟩
        have hdU := sU _ _ hd
        -- two parts
        have imA : ∀ r, immAll (A1 m (i + 1) ++ A2 (Bf ms i) m (i + 1) ++ A3 (Bf ms i) m (i + 1) r) = true := fun r => a_imm fun k s t e => (bf_tr h2 e).1.imm
        refine ⟨fun σ U => ∃ (y7 : Option V) (fs : List V), σ = [some (.ref lm), some (.ref d), some (.int ((i + 1 : Nat) : Int)), some (.str (SX.S m.nm)), some (.str (SX.S m.so)), some (.ref pp), some (.ref lf), y7, y8] ∧ Same Y' U ∧ U lf = some (.lst fs) ∧ DpAll K U fs (Cs (Bf ms i) (i + 1) m), ?_, ?_⟩
        · have lpp : (nmV m.pt).length = m.pt.length := nmV_len _
          refine ⟨_, rfl, pp, nmV m.pt, rfl, .inr (sqT_s sU hpp), rfl, _, rfl, ?_⟩
          by_cases h1 : m.pt.length = 2
          · obtain ⟨p, p', ep⟩ : ∃ p p', m.pt = [p, p'] := by
              match m.pt, h1 with
              | [p, p'], _ => exact ⟨p, p', rfl⟩
            rw [ep] at hpp
            have e0 : decide (V.int (((nmV m.pt).length : Nat) : Int) = V.int 2) = true := decide_eq_true (by rw [lpp, h1]; rfl)
            rw [e0]
            refine iteT ?_
            refine ⟨_, rfl, _, _, rfl, rfl, 1, _, rfl, by omega, ?_⟩
            rw [show (((i + 1 : Nat) : Int) - 1 - 1).toNat = i + 1 - 2 by omega]
            refine for_range (lo := 1) (n := i + 1 - 2) (fun r σ U => ∃ (y7 : Option V) (fs : List V), σ = [some (.ref lm), some (.ref d), some (.int ((i + 1 : Nat) : Int)), some (.str (SX.S m.nm)), some (.str (SX.S m.so)), some (.ref pp), some (.ref lf), y7, y8] ∧ Same Y' U ∧ U lf = some (.lst fs) ∧ DpAll K U fs (A1 m (i + 1) ++ A2 (Bf ms i) m (i + 1) ++ A3 (Bf ms i) m (i + 1) r))
              ⟨y7, fs, rfl, sU, hf, by
                have : A3 (Bf ms i) m (i + 1) 0 = [] := by
                  unfold A3
                  rw [ep]
                  rfl
                rw [this, List.append_nil]
                exact df⟩ ?_ ?_
            · rintro r σ U1 hr2 ⟨y7, fs, rfl, s1', hf1, df1⟩
              have hd1 := s1' _ _ hd
              have tb1 := tb.same s1'
              have e1 : (1 : Int) + ((r : Nat) : Int) = ((r + 1 : Nat) : Int) := by omega
              have e2 : ((i + 1 : Nat) : Int) - 1 - (1 + ((r : Nat) : Int)) = ((i + 1 - 1 - (r + 1) : Nat) : Int) := by omega
              have k1n := look (r + 1) p (by omega)
              have k2n := look (i + 1 - 1 - (r + 1)) p' (by omega)
              have ea := a3_succ (B := Bf ms i) (n := i + 1) (r := r) ep
              -- the first part there?
              refine ⟨_, rfl, pp, _, 0, _, rfl, rfl, sqT_s s1' hpp, atI_nat (j := 0) rfl, _, rfl, by show 2 ≤ sizeLine; decide, fun tk ntk => ?_⟩
              have w1 := same_upd (o := .tup [.str (SX.S p), .int (1 + ((r : Nat) : Int))]) ntk
              have k1 : SqT K (upd U1 tk (.tup [.str (SX.S p), .int (1 + ((r : Nat) : Int))])) tk [.str (SX.S p), .int (1 + ((r : Nat) : Int))] := SqT.of upd_same
              generalize upd U1 tk (.tup [.str (SX.S p), .int (1 + ((r : Nat) : Int))]) = U2 at w1 k1 ⊢
              have tb2 := tb1.same w1
              refine ⟨_, rfl, d, tk, kvs, kyD p (r + 1), rfl, .inl (w1 _ _ hd1), tb2.ks, key_at k1 e1, _, rfl, ?_⟩
              rw [tb2.is (r + 1) p, k1n]
              cases hb1 : Bf ms i (r + 1) p with
              | none =>
                refine iteF ?_
                rw [hb1] at ea
                exact ⟨_, fs, rfl, s1'.trans w1, w1 _ _ hf1, by rw [ea, List.append_nil]; exact dpAll_same w1 df1⟩
              | some t =>
                refine iteT ?_
                -- and the second?
                refine ⟨_, rfl, pp, _, 1, _, rfl, rfl, sqT_s (s1'.trans w1) hpp, atI_nat (j := 1) rfl, _, rfl, _, _, rfl, rfl, _, rfl, _, _, rfl, rfl, by show 2 ≤ sizeLine; decide, fun tk2 ntk2 => ?_⟩
                have w2 := same_upd (o := .tup [.str (SX.S p'), .int (((i + 1 : Nat) : Int) - 1 - (1 + ((r : Nat) : Int)))]) ntk2
                have k2 : SqT K (upd U2 tk2 (.tup [.str (SX.S p'), .int (((i + 1 : Nat) : Int) - 1 - (1 + ((r : Nat) : Int)))])) tk2 [.str (SX.S p'), .int (((i + 1 : Nat) : Int) - 1 - (1 + ((r : Nat) : Int)))] := SqT.of upd_same
                generalize upd U2 tk2 (.tup [.str (SX.S p'), .int (((i + 1 : Nat) : Int) - 1 - (1 + ((r : Nat) : Int)))]) = U3 at w2 k2 ⊢
                have tb3 := tb2.same w2
                refine ⟨_, rfl, d, tk2, kvs, kyD p' (i + 1 - 1 - (r + 1)), rfl, .inl (w2 _ _ (w1 _ _ hd1)), tb3.ks, key_at k2 e2, _, rfl, ?_⟩
                rw [tb3.is (i + 1 - 1 - (r + 1)) p', k2n]
                have w12 := w1.trans w2
                cases hb2 : Bf ms i (i + 1 - 1 - (r + 1)) p' with
                | none =>
                  refine iteF ?_
                  rw [hb1, hb2] at ea
                  exact ⟨_, fs, rfl, s1'.trans w12, w12 _ _ hf1, by rw [ea, List.append_nil]; exact dpAll_same w12 df1⟩
                | some u =>
                  refine iteT ?_
                  rw [hb1, hb2] at ea
                  have s3' := s1'.trans w12
                  refine ⟨_, rfl, .inl ⟨rfl, _, SqL.of (w12 _ _ hf1)⟩, ?_⟩
                  refine ⟨_, rfl, _, rfl, _, rfl, pp, _, 0, _, rfl, rfl, sqT_s s3' hpp, atI_nat (j := 0) rfl, _, rfl, by show 2 ≤ sizeLine; decide, fun tk3 ntk3 => ?_⟩
                  have w3 := same_upd (o := .tup [.str (SX.S p), .int (1 + ((r : Nat) : Int))]) ntk3
                  have k3 : SqT K (upd U3 tk3 (.tup [.str (SX.S p), .int (1 + ((r : Nat) : Int))])) tk3 [.str (SX.S p), .int (1 + ((r : Nat) : Int))] := SqT.of upd_same
                  generalize upd U3 tk3 (.tup [.str (SX.S p), .int (1 + ((r : Nat) : Int))]) = U4 at w3 k3 ⊢
                  have tb4 := tb3.same w3
                  have w13 := w12.trans w3
                  obtain ⟨v, hv1, hv2⟩ := tb4.ok (r + 1) p t (k1n.trans hb1)
                  refine ⟨d, tk3, kvs, kyD p (r + 1), v, rfl, .inl (w13 _ _ hd1), tb4.ks, key_at k3 e1, hv1, ?_⟩
                  refine ⟨_, rfl, _, rfl, pp, _, 1, _, rfl, rfl, sqT_s (s1'.trans w13) hpp, atI_nat (j := 1) rfl, _, rfl, _, _, rfl, rfl, _, rfl, _, _, rfl, rfl, by show 2 ≤ sizeLine; decide, fun tk4 ntk4 => ?_⟩
                  have w4 := same_upd (o := .tup [.str (SX.S p'), .int (((i + 1 : Nat) : Int) - 1 - (1 + ((r : Nat) : Int)))]) ntk4
                  have k4 : SqT K (upd U4 tk4 (.tup [.str (SX.S p'), .int (((i + 1 : Nat) : Int) - 1 - (1 + ((r : Nat) : Int)))])) tk4 [.str (SX.S p'), .int (((i + 1 : Nat) : Int) - 1 - (1 + ((r : Nat) : Int)))] := SqT.of upd_same
                  generalize upd U4 tk4 (.tup [.str (SX.S p'), .int (((i + 1 : Nat) : Int) - 1 - (1 + ((r : Nat) : Int)))]) = U5 at w4 k4 ⊢
                  have tb5 := tb4.same w4
                  have w14 := w13.trans w4
                  obtain ⟨v', hv3, hv4⟩ := tb5.ok (i + 1 - 1 - (r + 1)) p' u (k2n.trans hb2)
                  refine ⟨d, tk4, kvs, kyD p' (i + 1 - 1 - (r + 1)), v', rfl, .inl (w14 _ _ hd1), tb5.ks, key_at k4 e2, hv3, ?_⟩
                  refine ⟨by show 2 ≤ sizeLine; decide, fun t1 n1 => ?_⟩
                  have w5 := same_upd (o := .tup [v, v']) n1
                  have k5 : SqT K (upd U5 t1 (.tup [v, v'])) t1 [v, v'] := SqT.of upd_same
                  generalize upd U5 t1 (.tup [v, v']) = U6 at w5 k5 ⊢
                  refine ⟨by show 3 ≤ sizeLine; decide, fun t2 n2 => ?_⟩
                  have w6 := same_upd (o := .tup [.str (SX.S m.nm), .int 0, .ref t1]) n2
                  have dT : Dp K (upd U6 t2 (.tup [.str (SX.S m.nm), .int 0, .ref t1])) (.ref t2) (trD m.nm [t, u]) := .tup (SqT.of upd_same) (.cons (.str _) (.cons (.int _) (.cons (.tup (sqT_s w6 k5) (.cons (dp_same ((w4.trans w5).trans w6) hv2) (.cons (dp_same (w5.trans w6) hv4) .nil))) .nil)))
                  generalize upd U6 t2 (.tup [.str (SX.S m.nm), .int 0, .ref t1]) = U7 at w6 dT ⊢
                  have w17 := (w14.trans w5).trans w6
                  have hf7 := w17 _ _ hf1
                  have iT : imm (trD m.nm [t, u]) = true := by
                    show (true && (true && ((imm t && (imm u && true)) && true))) = true
                    rw [(bf_tr h2 hb1).1.imm, (bf_tr h2 hb2).1.imm]
                    rfl
                  have lfs := dpAll_len df1
                  have := a_len (B := Bf ms i) (m := m) (n := i + 1) (r := r)
                  refine ⟨lf, fs, _, rfl, rfl, hf7, small1000 (by omega), _, fs ++ [.ref t2], rfl, Same.at_ (s1'.trans w17) nlf, upd_same, ?_⟩
                  rw [ea, ← List.append_assoc]
                  exact dpAll_appI (dpAll_imm ((KeepT.of w17).trans (KeepT.at_ hf7 lst_no)) df1 (imA r)) (.cons (dp_imm (KeepT.at_ hf7 lst_no) dT iT) .nil)
            · rintro σ U1 ⟨y7, fs, rfl, s1', hf1, df1⟩
              exact ⟨y7, fs, rfl, s1', hf1, by rw [cs_parts _ _ pt2]; exact df1⟩
          · have e0 : decide (V.int (((nmV m.pt).length : Nat) : Int) = V.int 2) = false := decide_eq_false (fun z => h1 (by have := V.int.inj z; omega))
            rw [e0]
            refine iteF ?_
            refine ⟨1, 1, rfl, by decide, ?_⟩
            refine for_range (lo := 1) (n := 0) (fun r σ U1 => σ = [some (.ref lm), some (.ref d), some (.int ((i + 1 : Nat) : Int)), some (.str (SX.S m.nm)), some (.str (SX.S m.so)), some (.ref pp), some (.ref lf), y7, y8] ∧ U1 = U) ⟨rfl, rfl⟩ (fun r σ U hr => absurd hr (Nat.not_lt_zero _)) ?_
            rintro σ U1 ⟨rfl, rfl⟩
            refine ⟨y7, fs, rfl, sU, hf, ?_⟩
            have : A3 (Bf ms i) m (i + 1) (i + 1 - 2) = [] := by
              unfold A3
              match m.pt, h1 with
              | [], _ => rfl
              | [_], _ => rfl
              | [_, _], h1 => exact absurd rfl h1
              | _ :: _ :: _ :: _, _ => rfl
            rw [cs_parts _ _ pt2, this, List.append_nil]
            exact df
        rintro σ U ⟨y7, fs, rfl, sU, hf, df⟩
        have tbU := tb.same sU
        have hdU := sU _ _ hd
        have lfs := dpAll_len df
        have cl : (Cs (Bf ms i) (i + 1) m).length ≤ 15 := by
          rw [cs_parts _ _ pt2]
          exact Nat.le_trans a_len (by omega)
        have ndlU : lf ≠ d := ne_of_none hd nlf |> Ne.symm
        have hlfH : H lf = none := sY.free nlf
        refine ⟨_, rfl, lf, rfl, ⟨_, SqL.of hf⟩, ?_⟩
        refine for_it walk_list (fun r σ U1 => ∃ (y7 y8 : Option V) (kvs : List NE), σ = [some (.ref lm), some (.ref d), some (.int ((i + 1 : Nat) : Int)), some (.str (SX.S m.nm)), some (.str (SX.S m.so)), some (.ref pp), some (.ref lf), y7, y8] ∧ Same H U1 ∧ U1 lf = some (.lst fs) ∧ DpAll K U1 fs (Cs (Bf ms i) (i + 1) m) ∧ U1 d = some (dnO P w d kvs) ∧ TBt K U1 kvs (Tb ms i (PsT ms i j ++ ((Cs (Bf ms i) (i + 1) m).take r).map fun t => (m.so, t))) ∧ kvs.length ≤ 120 * i + 15 * j + r)
          ⟨y7, y8, kvs, rfl, sY.trans sU, hf, df, hdU, by rw [List.take_zero, List.map_nil, List.append_nil]; exact tbU, kl⟩ (fun r σ U1 _ ⟨_, _, _, _, _, b, _⟩ => SqL.of b) ?_ ?_
        · rintro r v σ U0 U1 hr ⟨y7, y8, kvs, rfl, sU1, hf1, df1, hd1, tb1, kl1⟩ ⟨rfl, hv⟩
          have hv : fs[r]? = some v := hv
          obtain ⟨t, ht, hvt⟩ := dpAll_at df1 hv
          have hr15 : r < 15 := by
            have := (List.getElem?_eq_some_iff.mp ht).1
            omega
          have htm := List.mem_of_getElem? ht
          have tt := cs_tr h2 hmm htm
          obtain ⟨L', eL⟩ : ∃ L', L' = PsT ms i j ++ ((Cs (Bf ms i) (i + 1) m).take r).map fun t => (m.so, t) := ⟨_, rfl⟩
          have eL' : PsT ms i j ++ ((Cs (Bf ms i) (i + 1) m).take (r + 1)).map (fun t => (m.so, t)) = L' ++ [(m.so, t)] := by
            rw [List.take_add_one, ht, List.map_append, ← List.append_assoc, eL]
            rfl
          rw [eL']
          rw [← eL] at tb1
          have allT : AllT ms i L' := fun e he => by
            rw [eL] at he
            rcases List.mem_append.mp he with he | he
            · unfold PsT Ps at he
              obtain ⟨m', hm', he⟩ := List.mem_flatMap.mp he
              obtain ⟨t', ht', rfl⟩ := List.mem_map.mp he
              exact cs_tr h2 (List.mem_of_mem_take hm') ht'
            · obtain ⟨t', ht', rfl⟩ := List.mem_map.mp he
              exact cs_tr h2 hmm (List.mem_of_mem_take ht')
          have ev : ∀ s, Tb ms i L' (i + 1) s = minO (ofS s L') := fun s => by
            unfold Tb
            rw [if_pos rfl]
          have other : ∀ k s, ¬ (s = m.so ∧ k = i + 1) → Tb ms i (L' ++ [(m.so, t)]) k s = Tb ms i L' k s := fun k s z => by
            unfold Tb
            by_cases hk : k = i + 1
            · rw [if_pos hk, if_pos hk, ofS_snoc, if_neg (fun w => z ⟨w.symm, hk⟩)]
            · rw [if_neg hk, if_neg hk]
          have new : Tb ms i (L' ++ [(m.so, t)]) (i + 1) m.so = some (match minO (ofS m.so L') with
              | none => t
              | some b => if PySem.W.dataLt t b = true then t else b) := by
            unfold Tb
            rw [if_pos rfl, ofS_snoc, if_pos rfl, minO_snoc]
            all_goals rfl
          -- what stands, and the lesser one
          refine ⟨_, rfl, ⟨d, kvs, rfl, .inl hd1⟩, ?_⟩
          refine ⟨_, rfl, _, rfl, by show 2 ≤ sizeLine; decide, fun tk ntk => ?_⟩
          have w1 := same_upd (o := .tup [.str (SX.S m.so), .int ((i + 1 : Nat) : Int)]) ntk
          have k1 : SqT K (upd U1 tk (.tup [.str (SX.S m.so), .int ((i + 1 : Nat) : Int)])) tk [.str (SX.S m.so), .int ((i + 1 : Nat) : Int)] := SqT.of upd_same
          generalize upd U1 tk (.tup [.str (SX.S m.so), .int ((i + 1 : Nat) : Int)]) = U2 at w1 k1 ⊢
          have tb2 := tb1.same w1
          refine ⟨_, rfl, d, tk, kvs, kyD m.so (i + 1), _, v, rfl, rfl, .inl (w1 _ _ hd1), tb2.ks, key_at k1 rfl, ?_⟩
          have hvt2 := dp_same w1 hvt
          have fin : ∀ (u : V) (x : PyData), Dp K U2 u x → imm x = true → Tb ms i (L' ++ [(m.so, t)]) (i + 1) m.so = some x → ∀ tk2, U2 tk2 = none → ∀ U3, U3 = upd U2 tk2 (.tup [.str (SX.S m.so), .int ((i + 1 : Nat) : Int)]) →
              Same H (upd U3 d (dnO P w d (stN kvs (keyD (kyD m.so (i + 1))) tk2 u))) ∧ (upd U3 d (dnO P w d (stN kvs (keyD (kyD m.so (i + 1))) tk2 u))) lf = some (.lst fs) ∧ DpAll K (upd U3 d (dnO P w d (stN kvs (keyD (kyD m.so (i + 1))) tk2 u))) fs (Cs (Bf ms i) (i + 1) m) ∧ TBt K (upd U3 d (dnO P w d (stN kvs (keyD (kyD m.so (i + 1))) tk2 u))) (stN kvs (keyD (kyD m.so (i + 1))) tk2 u) (Tb ms i (L' ++ [(m.so, t)])) ∧ KeyN K U3 (.ref tk2) tk2 (kyD m.so (i + 1)) ∧ U3 d = some (dnO P w d kvs) ∧ KeysN K U3 kvs := fun u x hu hx hn tk2 ntk2 U3 eU => by
            have w2 := same_upd (o := .tup [.str (SX.S m.so), .int ((i + 1 : Nat) : Int)]) ntk2
            rw [← eU] at w2
            have k2 : SqT K U3 tk2 [.str (SX.S m.so), .int ((i + 1 : Nat) : Int)] := by
              rw [eU]
              exact SqT.of upd_same
            have hd3 := w2 _ _ (w1 _ _ hd1)
            have kk : KeepT U3 (upd U3 d (dnO P w d (stN kvs (keyD (kyD m.so (i + 1))) tk2 u))) := KeepT.at_ hd3 dn_no
            have w12 := w1.trans w2
            have tb3 := ((tb2.same w2).put (B' := Tb ms i (L' ++ [(m.so, t)])) (key_at k2 rfl) (dp_same w2 hu) hx hn other).keep kk
            refine ⟨Same.at_ (sU1.trans w12) nd, by rw [upd_ne ndlU]; exact w12 _ _ hf1, dpAll_imm kk (dpAll_same w12 df1) ?_, tb3, key_at k2 rfl, hd3, (tb2.same w2).ks⟩
            exact immAll_of2 fun x hx => (cs_tr h2 hmm hx).imm
          cases ho : minO (ofS m.so L') with
          | none =>
            rw [ho] at new
            rw [tb2.no (i + 1) m.so ((ev m.so).trans ho)]
            refine ⟨_, rfl, v, v, t, t, rfl, hvt2, hvt2, ⟨fun a ha b hb => ?_, fun a ha => ?_⟩, ?_, ?_, fun z => ?_, fun _ => ?_⟩
            · rw [show a = t by simpa using ha, show b = t by simpa using hb]
              exact tt.alike tt
            · rw [show a = t by simpa using ha]
              exact tt.ne
            · have := tt.depth
              omega
            · have := tt.depth
              omega
            · rw [ltD_irr] at z
              cases z
            · refine ⟨_, rfl, _, rfl, _, rfl, by show 2 ≤ sizeLine; decide, fun tk2 ntk2 => ?_⟩
              obtain ⟨a1, a2, a3, a4, a5, a6, a7⟩ := fin v t hvt2 tt.imm new tk2 ntk2 _ rfl
              refine ⟨d, tk2, kvs, kyD m.so (i + 1), rfl, a6, a7, a5, by omega, _, _, stN kvs (keyD (kyD m.so (i + 1))) tk2 v, rfl, a1, a2, a3, upd_same, a4, ?_⟩
              have := stN_len kvs (keyD (kyD m.so (i + 1))) tk2 v
              omega
          | some b =>
            rw [ho] at new
            obtain ⟨vb, hb1, hb2⟩ := tb2.ok (i + 1) m.so b ((ev m.so).trans ho)
            rw [hb1]
            have tbb := tb_tr h2 allT ((ev m.so).trans ho)
            refine ⟨_, rfl, vb, v, b, t, rfl, hb2, hvt2, ⟨fun x hx y hy => ?_, fun x hx => ?_⟩, ?_, ?_, fun z => ?_, fun z => ?_⟩
            · simp only [List.mem_cons, List.not_mem_nil, or_false] at hx hy
              rcases hx with rfl | rfl <;> rcases hy with rfl | rfl
              · exact tbb.alike tbb
              · exact tbb.alike tt
              · exact tt.alike tbb
              · exact tt.alike tt
            · simp only [List.mem_cons, List.not_mem_nil, or_false] at hx
              rcases hx with rfl | rfl
              · exact tbb.ne
              · exact tt.ne
            · have := tbb.depth
              omega
            · have := tt.depth
              omega
            · rw [show (match some b with | none => t | some b => if PySem.W.dataLt t b = true then t else b) = t from if_pos z] at new
              refine ⟨_, rfl, _, rfl, _, rfl, by show 2 ≤ sizeLine; decide, fun tk2 ntk2 => ?_⟩
              obtain ⟨a1, a2, a3, a4, a5, a6, a7⟩ := fin v t hvt2 tt.imm new tk2 ntk2 _ rfl
              refine ⟨d, tk2, kvs, kyD m.so (i + 1), rfl, a6, a7, a5, by omega, _, _, stN kvs (keyD (kyD m.so (i + 1))) tk2 v, rfl, a1, a2, a3, upd_same, a4, ?_⟩
              have := stN_len kvs (keyD (kyD m.so (i + 1))) tk2 v
              omega
            · rw [show (match some b with | none => t | some b => if PySem.W.dataLt t b = true then t else b) = b from if_neg (by rw [z]; decide)] at new
              refine ⟨_, rfl, _, rfl, _, rfl, by show 2 ≤ sizeLine; decide, fun tk2 ntk2 => ?_⟩
              obtain ⟨a1, a2, a3, a4, a5, a6, a7⟩ := fin vb b hb2 tbb.imm new tk2 ntk2 _ rfl
              refine ⟨d, tk2, kvs, kyD m.so (i + 1), rfl, a6, a7, a5, by omega, _, _, stN kvs (keyD (kyD m.so (i + 1))) tk2 vb, rfl, a1, a2, a3, upd_same, a4, ?_⟩
              have := stN_len kvs (keyD (kyD m.so (i + 1))) tk2 vb
              omega
        · rintro σ U1 ⟨y7, y8, kvs, rfl, sU1, hf1, df1, hd1, tb1, kl1⟩
          rw [lfs, List.take_length, ← psT_snoc ms i j hm] at tb1
          exact ⟨_, _, _, _, _, _, kvs, rfl, sU1, hd1, tb1, by omega⟩
      · rintro σ Y' ⟨y3, y4, y5, y6, y7, y8, kvs, rfl, sY, hd, tb, kl⟩
        rw [lmv, Tb_all] at tb
        exact ⟨_, _, _, _, _, _, _, kvs, rfl, sY, hd, tb, by omega⟩
    · rintro σ Y ⟨y2, y3, y4, y5, y6, y7, y8, kvs, rfl, sY, hd, tb, kl⟩
      exact ⟨_, rfl, q Y d kvs sY nd hd tb⟩
end
/-! ### what is no sort is refused -/
abbrev s__law_refused : Stmt := top 72
abbrev N__law_refused : List Str := ["_law_grammar", "_law_name", "_law_caught", "error", "_law_others"]
abbrev P__law_refused : List Str := ["_law_grammar", "_law_name"]
theorem sc__law_refused : FnScope N__law_refused P__law_refused (defScope s__law_refused) := ⟨rfl, rfl, rfl, by decide +kernel, rfl, by decide +kernel, by decide +kernel⟩
structure Nr17 (K : PySem.W.Frag) (mg : Str → Option Value) (C Y1 Y2 Y3 Y4 : Addr) : Prop where
  nn : mg "NoName" = some (.ref C)
  y1 : mg "BadGrammar" = some (.ref Y1)
  y2 : mg "NoNode" = some (.ref Y2)
  y3 : mg "NoOp" = some (.ref Y3)
  y4 : mg "NoRow" = some (.ref Y4)
  ex : PySem.W.exmOne K (.ref C) (.ref C) = some true
  xv : XvC K C
  fl : PySem.W.findIn K (.ref C) "name" = some none
  no : PySem.W.kitAny K (.ref C) [.ref Y1, .ref Y2, .ref Y3, .ref Y4] = some false
  ke : PySem.W.kitOne K (.ref C) (.type "KeyError") = some true
structure Rf17 (mg : Str → Option Value) : Prop where
  isinstance : mg "isinstance" = none
  ke : mg "KeyError" = none
def spRefused (K : PySem.W.Frag) (P : Program) (w : World) (G : Addr) : Sp := fun vs H Q _ => ∃ (Z : Hp) (x : Addr) (z : Str) (rs : List SRow) (ms : List MRow) (ru : List RRow) (roof : Nat), vs = [.ref x, .str z] ∧ GrOk K P w G Z H x rs ms ru roof ∧ GFit rs ms ru roof ∧ (∀ r ∈ rs, z ≠ SX.S r.nm) ∧ ∀ H', Same H H' → Q (.bl true) H'
section
variable {P : Program} {w : World} {K : PySem.W.Frag} {mg : Str → Option Value} {base : Heap} {G C Y1 Y2 Y3 Y4 : Addr}
theorem ok_refused {sn : Nat} (T : Rf17 mg) (NS : Nr17 K mg C Y1 Y2 Y3 Y4) (cleast_tree : CalX P w K mg base (sn + 6) "least_tree" (spLeast1 K P w G C) []) (D : Dd K mg "_law_refused" s__law_refused P__law_refused) : C8.Cal P w K mg base (sn + 7) "_law_refused" (spRefused K P w G) [] := by
  refine D.cal sc__law_refused (fun vs H Q E h => ?_) (fun f cdv A outer s H vs Q E hr h => ?_)
  · obtain ⟨Z, x, z, rs, ms, ru, roof, rfl, _⟩ := h
    rfl
  · obtain ⟨Z, x, z, rs, ms, ru, roof, rfl, go, gf, hno, q⟩ := h
    refine ⟨_, (pss_cons (ps_set (i := 2) sc__law_refused.nd rfl (Or.inl rfl) pe_non)
        (pss_cons (ps_try_keep (i := 3) rfl rfl rfl sc__law_refused.nd rfl rfl ⟨by rfl, by decide, .inl NS.nn⟩ takes_no
          (fun W pn xe tk hp => pss_one (ps_expr (pe_cT cleast_tree hr (by omega) (by rfl) tk (pa_cons (pv 0) (pa_cons (pv 1) pa_nil)))))
          (fun a oe cls d pn hz hd => pss_one (ps_set (i := 2) sc__law_refused.nd rfl (Or.inl rfl) (pv 3))))
        (pss_cons (ps_set (i := 4) sc__law_refused.nd rfl (Or.inl rfl) (pe_callB call_isXvT (by rfl) T.isinstance (by decide +kernel) (pa_cons (pv 2) (pa_cons (pe_tup (pa_cons (pe_glob (v := .ref Y1) rfl NS.y1 rfl) (pa_cons (pe_glob (v := .ref Y2) rfl NS.y2 rfl) (pa_cons (pe_glob (v := .ref Y3) rfl NS.y3 rfl) (pa_cons (pe_glob (v := .ref Y4) rfl NS.y4 rfl) pa_nil))))) pa_nil))))
        (pss_one (ps_ret (pe_and (pe_callB call_isXv (by rfl) T.isinstance (by decide +kernel) (pa_cons (pv 2) (pa_cons (pe_bltn (v := .ty "KeyError") rfl T.ke (by decide +kernel) rfl) pa_nil))) (pe_and (pe_not (pv 4)) (pe_one (pe_cmpR op_eq (pe_xv (pv 2)) (pv 1) (nomark _)))))))))), ?_⟩
    refine ⟨_, rfl, _, rfl, Z, x, z, rs, ms, ru, roof, rfl, go, gf, .inr ⟨hno, fun H1 dd y s1 nd ed hy => ?_⟩⟩
    refine ⟨C, dd, true, rfl, rfl, NS.ex, fun _ a na => ?_, fun z => nomatch z⟩
    refine ⟨_, rfl, ?_⟩
    have nda : dd ≠ a := ne_of_none ed na
    have s2 := s1.trans (same_upd (o := exv a C dd) na)
    have ha : (upd H1 a (exv a C dd)) a = some (exv a C dd) := upd_same
    have hd2 : (upd H1 a (exv a C dd)) dd = some (.xd [("name", y)]) := by
      rw [upd_ne nda]
      exact ed
    cases hy
    refine ⟨_, rfl, by show 4 ≤ sizeLine; decide, fun tp nt => ?_⟩
    have s3 := same_upd (o := .tup [.ref Y1, .ref Y2, .ref Y3, .ref Y4]) nt
    have ha3 := s3 _ _ ha
    have hd3 := s3 _ _ hd2
    refine ⟨a, C, dd, tp, _, _, [.ref Y1, .ref Y2, .ref Y3, .ref Y4], false, rfl, ha3, NS.xv, hd3, upd_same, .cons (.own Y1) (.cons (.own Y2) (.cons (.own Y3) (.cons (.own Y4) .nil))), NS.no, ?_⟩
    refine ⟨_, rfl, a, C, dd, _, .ty "KeyError", .type "KeyError", true, rfl, ha3, NS.xv, hd3, .ty _, NS.ke, _, rfl, iteT ?_⟩
    refine ⟨_, rfl, _, rfl, _, rfl, iteT ?_⟩
    refine ⟨_, rfl, a, C, dd, _, _, rfl, ha3, NS.xv, NS.fl, hd3, rfl, _, rfl, rfl, ?_⟩
    rw [decide_eq_true rfl]
    exact q _ (s2.trans s3)
end
/-! ### rows in another order -/
theorem rows_perm {K : PySem.W.Frag} {H : Hp} {α : Type} {f : α → PyData} : ∀ {vs ws : List V} {xs : List α}, ws.Perm vs → DpAll K H vs (xs.map f) → ∃ ys : List α, ys.Perm xs ∧ DpAll K H ws (ys.map f) := by
  intro vs ws xs p
  induction p generalizing xs with
  | nil =>
    intro h
    exact ⟨xs, List.Perm.refl _, h⟩
  | @cons x l1 l2 p ih =>
    intro h
    cases xs with
    | nil => cases h
    | cons y ys =>
      cases h with
      | cons h1 h2 =>
        obtain ⟨zs, q1, q2⟩ := ih h2
        exact ⟨y :: zs, q1.cons y, .cons h1 q2⟩
  | @swap x y l =>
    intro h
    cases xs with
    | nil => cases h
    | cons a xs =>
      cases xs with
      | nil =>
        cases h with
        | cons _ h => cases h
      | cons b xs =>
        cases h with
        | cons h1 h =>
          cases h with
          | cons h2 h => exact ⟨b :: a :: xs, List.Perm.swap .., .cons h2 (.cons h1 h)⟩
  | @trans l1 l2 l3 p q ih1 ih2 =>
    intro h
    obtain ⟨ys, a1, a2⟩ := ih2 h
    obtain ⟨zs, b1, b2⟩ := ih1 a2
    exact ⟨zs, b1.trans a1, b2⟩
/-! ### a list of data made over a range -/
theorem lc_datR {K : PySem.W.Frag} {D : Addr} {lo : Int} {n : Nat} {f : Nat → PyData} {p : Nat → Bool} {g : TG} {tt : TT} {te : TE} {vs : List Nat} {σ : L2.St} {Y : Hp} {Qd : Hp → Prop} (hi : ∀ k, k < n → imm (f k) = true) (hl : n ≤ 500) (nD : Y D = none)
    (hs : ∀ (k : Nat) (U : Hp) (X : VK) (F : Hp → Prop), k < n → Same Y U → (p k = true → ∀ y H4, Same U H4 → Dp K H4 y (f k) → X y H4) → (p k = false → ∀ H4, Same U H4 → F H4) → g (.int (lo + (k : Nat))) (wipe σ vs) U fun σ2 H2 => wipe σ2 vs = wipe σ vs ∧ tt σ2 H2 fun b H3 => if b = true then te σ2 H3 X else F H3)
    (hd : ∀ (U : Hp) (es : List V), Same Y U → U D = some (.lst es) → DpAll K U es (((List.range n).filter p).map f) → Qd U) :
    ∃ W : Nat → Nat → Hp → Prop, (∃ m, W 0 m (upd Y D (.lst []))) ∧ ∀ i m H, W i m H →
      ((Itr lo n).stop i H ∧ Qd H) ∨ ((Itr lo n).go i H ∧ ∃ Nx : Hp → Prop, (∀ H', Nx H' → ∃ m', m' < m ∧ W (i + 1) m' H') ∧ ∀ x H', (Itr lo n).yld i H x H' → g x (wipe σ vs) H' fun σ2 H2 => wipe σ2 vs = wipe σ vs ∧ tt σ2 H2 fun b H3 =>
        if b = true then te σ2 H3 fun y H4 => ∃ acc, H4 D = some (.lst acc) ∧ acc.length < sizeLine ∧ Nx (upd H4 D (.lst (acc ++ [y]))) else Nx H3) := by
  refine lc_range (lo := lo) (fun j U => Same Y U ∧ ∃ es : List V, U D = some (.lst es) ∧ DpAll K U es (((List.range j).filter p).map f)) ⟨same_upd nD, [], upd_same, .nil⟩ ?_ ?_
  · rintro j U hj ⟨sU, es, hD, hp⟩
    have tk : List.range (j + 1) = List.range j ++ [j] := List.range_succ
    have le := dpAll_len hp
    have : ((List.range j).filter p).length ≤ j := Nat.le_trans (List.length_filter_le _ _) (by rw [List.length_range]; omega)
    rw [List.length_map] at le
    refine hs j U _ _ hj sU (fun px y H4 s4 hy => ?_) (fun px H4 s4 => ?_)
    · have hD4 := s4 _ _ hD
      refine ⟨_, hD4, small1000 (by omega), Same.at_ (sU.trans s4) nD, _, upd_same, ?_⟩
      have kk : KeepT H4 (upd H4 D (.lst (es ++ [y]))) := KeepT.at_ hD4 lst_no
      rw [tk, List.filter_append, List.map_append, List.filter_cons_of_pos px]
      have a1 := dpAll_imm ((KeepT.of s4).trans kk) hp (immAll_of2 fun d hd => by
        obtain ⟨z, hz, rfl⟩ := List.mem_map.mp hd
        have := List.mem_range.mp (List.mem_filter.mp hz).1
        exact hi z (by omega))
      exact dpAll_appI a1 (.cons (dp_imm kk hy (hi j hj)) .nil)
    · refine ⟨sU.trans s4, es, s4 _ _ hD, ?_⟩
      rw [tk, List.filter_append, List.filter_cons_of_neg (by rw [px]; decide), List.filter_nil, List.append_nil]
      exact dpAll_same s4 hp
  · rintro U ⟨sU, es, hD, hp⟩
    exact hd U es sU hD hp
/-- the same over a list of data -/
theorem lc_datV {K : PySem.W.Frag} {L D : Addr} {α : Type} {xs : List α} {es : List V} {fd : α → PyData} {f : α → PyData} {p : α → Bool} {g : TG} {tt : TT} {te : TE} {vs : List Nat} {σ : L2.St} {Y : Hp} {Qd : Hp → Prop} (hL : Y L = some (.lst es)) (hes : DpAll K Y es (xs.map fd)) (hi : ∀ x ∈ xs, imm (f x) = true) (hl : xs.length ≤ 500) (nD : Y D = none)
    (hs : ∀ (v : V) (x : α) (U : Hp) (X : VK) (F : Hp → Prop), x ∈ xs → Same Y U → Dp K U v (fd x) → (p x = true → ∀ y H4, Same U H4 → Dp K H4 y (f x) → X y H4) → (p x = false → ∀ H4, Same U H4 → F H4) → g v (wipe σ vs) U fun σ2 H2 => wipe σ2 vs = wipe σ vs ∧ tt σ2 H2 fun b H3 => if b = true then te σ2 H3 X else F H3)
    (hd : ∀ (U : Hp) (es : List V), Same Y U → U D = some (.lst es) → DpAll K U es ((xs.filter p).map f) → Qd U) :
    ∃ W : Nat → Nat → Hp → Prop, (∃ m, W 0 m (upd Y D (.lst []))) ∧ ∀ i m H, W i m H →
      ((Itl K L).stop i H ∧ Qd H) ∨ ((Itl K L).go i H ∧ ∃ Nx : Hp → Prop, (∀ H', Nx H' → ∃ m', m' < m ∧ W (i + 1) m' H') ∧ ∀ x H', (Itl K L).yld i H x H' → g x (wipe σ vs) H' fun σ2 H2 => wipe σ2 vs = wipe σ vs ∧ tt σ2 H2 fun b H3 =>
        if b = true then te σ2 H3 fun y H4 => ∃ acc, H4 D = some (.lst acc) ∧ acc.length < sizeLine ∧ Nx (upd H4 D (.lst (acc ++ [y]))) else Nx H3) := by
  have les := dpAll_len hes
  rw [List.length_map] at les
  refine lc_list (K := K) (a := L) (xs := es) (fun j U => Same Y U ∧ ∃ es : List V, U D = some (.lst es) ∧ DpAll K U es (((xs.take j).filter p).map f)) ⟨same_upd nD, [], upd_same, .nil⟩ (fun j U _ h => SqL.of (h.1 _ _ hL)) ?_ ?_
  · rintro j v U hx ⟨sU, es', hD, hp⟩
    obtain ⟨dd, hdd, hvd⟩ := dpAll_at (dpAll_same sU hes) hx
    rw [List.getElem?_map] at hdd
    obtain ⟨x, hx2, rfl⟩ : ∃ x, xs[j]? = some x ∧ dd = fd x := by
      cases h : xs[j]? with
      | none => rw [h] at hdd; cases hdd
      | some e => rw [h] at hdd; exact ⟨e, rfl, (Option.some.inj hdd).symm⟩
    have hj : j < xs.length := (List.getElem?_eq_some_iff.mp hx2).1
    have tk : xs.take (j + 1) = xs.take j ++ [x] := by rw [List.take_add_one, hx2]; rfl
    have le := dpAll_len hp
    have : ((xs.take j).filter p).length ≤ j := Nat.le_trans (List.length_filter_le _ _) (by rw [List.length_take]; omega)
    rw [List.length_map] at le
    refine hs v x U _ _ (List.mem_of_getElem? hx2) sU hvd (fun px y H4 s4 hy => ?_) (fun px H4 s4 => ?_)
    · have hD4 := s4 _ _ hD
      refine ⟨_, hD4, small1000 (by omega), Same.at_ (sU.trans s4) nD, _, upd_same, ?_⟩
      have kk : KeepT H4 (upd H4 D (.lst (es' ++ [y]))) := KeepT.at_ hD4 lst_no
      rw [tk, List.filter_append, List.map_append, List.filter_cons_of_pos px]
      have a1 := dpAll_imm ((KeepT.of s4).trans kk) hp (immAll_of2 fun d hd => by
        obtain ⟨z, hz, rfl⟩ := List.mem_map.mp hd
        exact hi z (List.mem_of_mem_take (List.mem_filter.mp hz).1))
      exact dpAll_appI a1 (.cons (dp_imm kk hy (hi x (List.mem_of_getElem? hx2))) .nil)
    · refine ⟨sU.trans s4, es', s4 _ _ hD, ?_⟩
      rw [tk, List.filter_append, List.filter_cons_of_neg (by rw [px]; decide), List.filter_nil, List.append_nil]
      exact dpAll_same s4 hp
  · rintro U ⟨sU, es', hD, hp⟩
    rw [les, List.take_length] at hp
    exact hd U es' sU hD hp
/-! ### the great grammar -/
abbrev s__law_great : Stmt := top 73
abbrev N__law_great : List Str := ["_law_box", "_law_names", "_law_calls", "_law_makings", "_law_k", "_law_name"]
abbrev P__law_great : List Str := ["_law_box"]
theorem sc__law_great : FnScope N__law_great P__law_great (defScope s__law_great) := ⟨rfl, rfl, rfl, by decide +kernel, rfl, by decide +kernel, by decide +kernel⟩
def XL : List Nat := [120]
def kSo (ws : List (List Nat)) : List SRow := ws.map fun w => ⟨w, [], [XL]⟩
theorem xl_ok : NmOk XL := ⟨⟨by decide, by decide, by decide⟩, by decide⟩
theorem kso_ok {ws : List (List Nat)} (hn : ws.Nodup) (ok : ∀ w ∈ ws, NmOk w) (h : ws.length ≤ 4) : SortsOk (kSo ws) := by
  refine ⟨fun r hr => ?_, ?_, by unfold kSo; rw [List.length_map]; exact h⟩
  · obtain ⟨w, hw, rfl⟩ := List.mem_map.mp hr
    refine ⟨ok w hw, fun u hu => ?_, ?_, Nat.zero_le _, by show 1 ≤ 2; decide⟩
    · rw [List.mem_singleton.mp (show u ∈ [XL] from hu)]
      exact xl_ok
    · exact List.nodup_cons.mpr ⟨List.not_mem_nil, List.nodup_nil⟩
  · unfold kSo
    rw [List.map_map]
    exact (List.map_id' ws).symm ▸ hn
theorem one_nd {α : Type} (x : α) : [x].Nodup := List.nodup_cons.mpr ⟨List.not_mem_nil, List.nodup_nil⟩
theorem gfitM {rs : List SRow} {ms : List MRow} (so : SortsOk rs) (nd : (ms.map MRow.nm).Nodup) (ok : ∀ m ∈ ms, MOk rs m) (m8 : ms.length ≤ 8) : GFit rs ms [] 0 :=
  ⟨so, nd, ok, m8, fun m hm => (nomatch hm), List.Pairwise.nil, Nat.zero_le _, fun m hm => (nomatch hm), fun m hm => by rw [show keptNames m.nm [] = [] from rfl]; exact Nat.zero_le _, Nat.zero_le _⟩
theorem get_D {xs : List (List Nat)} {k : Nat} (h : k < xs.length) : xs[k]? = some (xs.getD k []) := by
  rw [List.getD_eq_getElem?_getD, List.getElem?_eq_getElem h]
  rfl
def mA (ws cs : List (List Nat)) (k : Nat) : MRow := ⟨cs.getD k [], ws.getD k [], [ws.getD (k + 1) [], ws.getD (k + 1) []]⟩
def mB (ws cs : List (List Nat)) (k : Nat) : MRow := ⟨cs.getD (4 + k) [], ws.getD k [], [ws.getD (k + 1) [], ws.getD k []]⟩
def mAll (ws cs : List (List Nat)) : List MRow := (List.range 3).map (mA ws cs) ++ [⟨cs.getD 3 [], ws.getD 3 [], []⟩] ++ (List.range 3).map (mB ws cs)
theorem mAll_nm {ws cs : List (List Nat)} (e2 : cs.length = 8) : (mAll ws cs).map MRow.nm = cs.take 7 := by
  match cs, e2 with
  | [c0, c1, c2, c3, c4, c5, c6, c7], _ => rfl
theorem mAll_ok {ws cs : List (List Nat)} (e1 : ws.length = 4) (e2 : cs.length = 8) (ok2 : ∀ w ∈ cs, NmOk w) : ∀ m ∈ mAll ws cs, MOk (kSo ws) m := fun m hm => by
  have key : ∀ {c s : List Nat} {ps : List (List Nat)}, c ∈ cs → (∀ k ∈ s :: ps, k ∈ ws) → ps.length ≤ 2 → MOk (kSo ws) ⟨c, s, ps⟩ := fun {c s ps} h1 h2 h3 => ⟨ok2 c h1, fun k hk => ⟨⟨k, [], [XL]⟩, List.mem_map.mpr ⟨k, h2 k hk, rfl⟩, rfl⟩, h3⟩
  match ws, e1, cs, e2 with
  | [n0, n1, n2, n3], _, [c0, c1, c2, c3, c4, c5, c6, c7], _ =>
    have hm : m ∈ ([⟨c0, n0, [n1, n1]⟩, ⟨c1, n1, [n2, n2]⟩, ⟨c2, n2, [n3, n3]⟩, ⟨c3, n3, []⟩, ⟨c4, n0, [n1, n0]⟩, ⟨c5, n1, [n2, n1]⟩, ⟨c6, n2, [n3, n2]⟩] : List MRow) := hm
    simp only [List.mem_cons, List.not_mem_nil, or_false] at hm
    rcases hm with rfl | rfl | rfl | rfl | rfl | rfl | rfl <;> refine key (by simp) (fun k hk => ?_) (by simp) <;> (simp only [List.mem_cons, List.not_mem_nil, or_false] at hk ⊢; first | (rcases hk with h | h | h <;> simp [h]) | simp [hk])
theorem xl_S : (("x" : String) : Str) = SX.S XL := by decide +kernel
theorem dp_x {K : PySem.W.Frag} {H : Hp} : Dp K H (.str "x") (strD XL) := by
  show Dp K H (.str "x") (.str (SX.S XL))
  rw [← xl_S]
  exact .str _
/-- a law's dict with sorts and makings -/
structure GSM (K : PySem.W.Frag) (Y : Hp) (a gd : Addr) (rs : List SRow) (ms : List MRow) : Prop where
  ex : ∃ (ls lm : Addr) (kvs : List (Key × V)) (sv mv : List V), Y gd = some (.dK kvs) ∧ valV kvs (Sum.inr "sorts") = some (.ref ls) ∧ valV kvs (Sum.inr "makings") = some (.ref lm) ∧ Y ls = some (.lst sv) ∧ DpAll K Y sv (rs.map SRow.d) ∧ Y lm = some (.lst mv) ∧ DpAll K Y mv (ms.map MRow.d) ∧ ls ≠ a ∧ lm ≠ a ∧ gd ≠ a
def spGreat (K : PySem.W.Frag) : Sp := fun vs H Q _ => ∃ (a : Addr) (b : List V) (n : Nat), vs = [.ref a] ∧ H a = some (.lst b) ∧ BoxL n b ∧ n + 300 < 900000 ∧
  ∀ (H' : Hp) (gd : Addr) (rs : List SRow) (ms : List MRow) (b' : List V), But a H H' → GSM K H' a gd rs ms → GFit rs ms [] 0 → H' a = some (.lst b') → BoxL (n + 300) b' → Q (.ref gd) H'
structure Gt17 (mg : Str → Option Value) : Prop where
  range : mg "range" = none
section
variable {P : Program} {w : World} {K : PySem.W.Frag} {mg : Str → Option Value} {base : Heap} {G : Addr}
theorem ok_great (T : Gt17 mg) (c_law_named : C8.Cal P w K mg base 2 "_law_named" spNamed []) (c_law_strewn : C8.Cal P w K mg base 2 "_law_strewn" (spStrewn K) []) (D : Dd K mg "_law_great" s__law_great P__law_great) : C8.Cal P w K mg base 3 "_law_great" (spGreat K) [] := by
  refine D.cal sc__law_great (fun vs H Q E h => ?_) (fun f cdv A outer s H vs Q E hr h => ?_)
  · obtain ⟨a, b, n, rfl, _⟩ := h
    rfl
  · obtain ⟨a, b, n, rfl, ha, hB, hn, q⟩ := h
    refine ⟨_, (pss_cons (ps_asg (pe_tup (pa_cons (C8.pe_c c_law_named hr (by decide) (by rfl) (pa_cons (pv 0) (pa_cons pe_int pa_nil))) (pa_cons (C8.pe_c c_law_named hr (by decide) (by rfl) (pa_cons (pv 0) (pa_cons pe_int pa_nil))) pa_nil))) (pg_tup rfl (pgs_cons (pg_name (i := 1) sc__law_great.nd rfl (Or.inr rfl)) (pgs_cons (pg_name (i := 2) sc__law_great.nd rfl (Or.inr rfl)) pgs_nil))))
        (pss_cons (ps_set (i := 3) sc__law_great.nd rfl (Or.inl rfl) (pe_op op_cat (pe_lc (own := [("_law_k", 4)]) (by exact rfl) sc__law_great.nd (pi_range1 rfl T.range (pa_cons pe_int pa_nil)) (blkOk_by (own := [("_law_k", 4)]) (N := N__law_great) (sc := defScope s__law_great) (by decide +kernel)) (fun _ _ _ _ _ => (pg_name (i := 4) sc__law_great.nd rfl (Or.inl rfl))) (fun _ _ _ _ _ => pts_nil) (fun _ _ _ _ _ => (pe_tup (pa_cons (pe_ix (r := rIxL K) ix_list (pv 2) (pv 4) (fun _ _ => rfl)) (pa_cons (pe_ix (r := rIxL K) ix_list (pv 1) (pv 4) (fun _ _ => rfl)) (pa_cons (pe_op (r := rRepT K) op_repT (pe_tup (pa_cons (pe_ix (r := rIxL K) ix_list (pv 1) (pe_op op_add (pv 4) pe_int) (fun _ _ => rfl)) pa_nil)) pe_int) pa_nil)))))) (pe_lst (pa_cons (pe_tup (pa_cons (pe_ix (r := rIxL K) ix_list (pv 2) pe_int (fun _ _ => rfl)) (pa_cons (pe_ix (r := rIxL K) ix_list (pv 1) pe_int (fun _ _ => rfl)) (pa_cons (pe_tup pa_nil) pa_nil)))) pa_nil))))
        (pss_cons (ps_set (i := 3) sc__law_great.nd rfl (Or.inl rfl) (pe_op op_cat (pv 3) (pe_lc (own := [("_law_k", 4)]) (by exact rfl) sc__law_great.nd (pi_range1 rfl T.range (pa_cons pe_int pa_nil)) (blkOk_by (own := [("_law_k", 4)]) (N := N__law_great) (sc := defScope s__law_great) (by decide +kernel)) (fun _ _ _ _ _ => (pg_name (i := 4) sc__law_great.nd rfl (Or.inl rfl))) (fun _ _ _ _ _ => pts_nil) (fun _ _ _ _ _ => (pe_tup (pa_cons (pe_ix (r := rIxL K) ix_list (pv 2) (pe_op op_add pe_int (pv 4)) (fun _ _ => rfl)) (pa_cons (pe_ix (r := rIxL K) ix_list (pv 1) (pv 4) (fun _ _ => rfl)) (pa_cons (pe_tup (pa_cons (pe_ix (r := rIxL K) ix_list (pv 1) (pe_op op_add (pv 4) pe_int) (fun _ _ => rfl)) (pa_cons (pe_ix (r := rIxL K) ix_list (pv 1) (pv 4) (fun _ _ => rfl)) pa_nil))) pa_nil))))))))
        (pss_one (ps_ret (pe_disp (pps_cons pe_str (pe_lc (own := [("_law_name", 5)]) (by exact rfl) sc__law_great.nd (pi_list (pv 1)) (blkOk_by (own := [("_law_name", 5)]) (N := N__law_great) (sc := defScope s__law_great) (by decide +kernel)) (fun _ _ _ _ _ => (pg_name (i := 5) sc__law_great.nd rfl (Or.inl rfl))) (fun _ _ _ _ _ => pts_nil) (fun _ _ _ _ _ => (pe_tup (pa_cons (pv 5) (pa_cons (pe_tup pa_nil) (pa_cons (pe_tup (pa_cons pe_str pa_nil)) pa_nil)))))) (pps_cons pe_str (C8.pe_c c_law_strewn hr (by decide) (by rfl) (pa_cons (pv 0) (pa_cons (pv 3) pa_nil))) pps_nil)) (by rfl) (by rfl) (fun z => by cases z) (by decide))))))), ?_⟩
    refine ⟨_, rfl, a, 4, n, b, rfl, by decide, ha, hB, by omega, fun H1 l1 ws b1 bt1 nl1 hl1 e1 nd1 ok1 hb1 hB1 => ?_⟩
    refine ⟨_, rfl, a, 8, _, b1, rfl, by decide, hb1, hB1, by omega, fun H2 l2 cs b2 bt2 nl2 hl2 e2 nd2 ok2 hb2 hB2 => ?_⟩
    have n1a : l1 ≠ a := (ne_of_none ha nl1).symm
    have n2a : l2 ≠ a := (ne_of_none hb1 nl2).symm
    have hl1' := bt2 _ _ n1a hl1
    refine ⟨by show 2 ≤ sizeLine; decide, fun tp ntp => ?_⟩
    have stp := same_upd (o := .tup [.ref l1, .ref l2]) ntp
    refine ⟨tp, _, rfl, SqT.of upd_same, rfl, _, _, rfl, _, _, rfl, rfl, ?_⟩
    have bt3 : But a H (upd H2 tp (.tup [.ref l1, .ref l2])) := (bt1.trans bt2).trans (But.of stp)
    have hl1 := stp _ _ hl1'
    have hl2 := stp _ _ hl2
    have hb3 := stp _ _ hb2
    clear hl1' stp
    generalize upd H2 tp (.tup [.ref l1, .ref l2]) = H3 at bt3 hl1 hl2 hb3 ⊢
    have vat : ∀ {xs : List (List Nat)} {k : Nat}, k < xs.length → atI (nmV xs) ((k : Nat) : Int) = some (.str (SX.S (xs.getD k []))) := fun {xs k} h => atI_nat (by
      unfold nmV
      rw [List.getElem?_map, get_D h]
      rfl)
    have one : ∀ k : Nat, ((k : Nat) : Int) + 1 = ((k + 1 : Nat) : Int) := fun k => by omega
    have four : ∀ k : Nat, (4 : Int) + ((k : Nat) : Int) = ((4 + k : Nat) : Int) := fun k => by omega
    refine ⟨3, rfl, by decide, by decide, fun D1 nD1 => ?_⟩
    refine lc_datR (K := K) (lo := 0) (n := Int.toNat 3) (f := fun k => (mA ws cs k).d) (p := fun _ => true) (fun k _ => MRow.imm _) (by decide) nD1 (fun k U X F hk sU hX _ => ?_) fun H4 es1 s4 hD1 hes1 => ?_
    · rw [Int.zero_add]
      have hk : k < 3 := hk
      refine ⟨rfl, yesT ?_⟩
      refine ⟨_, rfl, _, rfl, l2, nmV cs, _, _, rfl, rfl, SqL.of (sU _ _ hl2), vat (k := k) (by omega), ?_⟩
      refine ⟨_, rfl, _, rfl, l1, nmV ws, _, _, rfl, rfl, SqL.of (sU _ _ hl1), vat (k := k) (by omega), ?_⟩
      refine ⟨_, rfl, _, rfl, _, _, rfl, rfl, l1, nmV ws, _, _, rfl, rfl, SqL.of (sU _ _ hl1), (by rw [one]; exact vat (k := k + 1) (by omega)), ?_⟩
      refine ⟨by show 1 ≤ sizeLine; decide, fun t1 n1 => ?_⟩
      have w1 := same_upd (o := .tup [.str (SX.S (ws.getD (k + 1) []))]) n1
      refine ⟨t1, 2, _, rfl, rfl, SqT.of upd_same, (fun z => by cases z), by decide, by decide, by show 1 ≤ 1000; decide, fun t2 n2 => ?_⟩
      have w2 := same_upd (o := .tup (List.replicate (2 : Int).toNat [V.str (SX.S (ws.getD (k + 1) []))]).flatten) n2
      refine ⟨by show 3 ≤ sizeLine; decide, fun t3 n3 => hX rfl _ _ ((w1.trans w2).trans (same_upd n3)) ?_⟩
      exact .tup (SqT.of upd_same) (.cons (.str _) (.cons (.str _) (.cons (.tup (SqT.of ((same_upd n3) _ _ upd_same)) (.cons (.str _) (.cons (.str _) .nil))) .nil)))
    have hes1 : DpAll K H4 es1 (((List.range 3).map (mA ws cs)).map MRow.d) := by
      rw [List.filter_eq_self.mpr (fun _ _ => rfl)] at hes1
      rw [List.map_map]
      exact hes1
    have les1 := dpAll_len hes1
    have les1 : es1.length = 3 := by
      rw [les1, List.length_map, List.length_map, List.length_range]
    have hl1 := s4 _ _ hl1
    have hl2 := s4 _ _ hl2
    -- a leaf
    refine ⟨_, rfl, l2, nmV cs, 3, _, rfl, rfl, SqL.of hl2, vat (xs := cs) (k := 3) (by omega), ?_⟩
    refine ⟨_, rfl, l1, nmV ws, 3, _, rfl, rfl, SqL.of hl1, vat (xs := ws) (k := 3) (by omega), ?_⟩
    refine ⟨by show 0 ≤ sizeLine; decide, fun t1 n1 => ?_⟩
    have w1 := same_upd (o := .tup []) n1
    have k1 : SqT K (upd H4 t1 (.tup [])) t1 [] := SqT.of upd_same
    generalize upd H4 t1 (.tup []) = H5 at w1 k1 ⊢
    refine ⟨by show 3 ≤ sizeLine; decide, fun t2 n2 => ?_⟩
    have w2 := same_upd (o := .tup [.str (SX.S (cs.getD 3 [])), .str (SX.S (ws.getD 3 [])), .ref t1]) n2
    have d2 : Dp K (upd H5 t2 (.tup [.str (SX.S (cs.getD 3 [])), .str (SX.S (ws.getD 3 [])), .ref t1])) (.ref t2) (MRow.d ⟨cs.getD 3 [], ws.getD 3 [], []⟩) := .tup (SqT.of upd_same) (.cons (.str _) (.cons (.str _) (.cons (.tup (sqT_s w2 k1) .nil) .nil)))
    generalize upd H5 t2 (.tup [.str (SX.S (cs.getD 3 [])), .str (SX.S (ws.getD 3 [])), .ref t1]) = H6 at w2 d2 ⊢
    refine ⟨by show 1 ≤ sizeLine; decide, fun l3 n3 => ?_⟩
    have w3 := same_upd (o := .lst [.ref t2]) n3
    have k3 : (upd H6 l3 (.lst [.ref t2])) l3 = some (.lst [.ref t2]) := upd_same
    generalize upd H6 l3 (.lst [.ref t2]) = H7 at w3 k3 ⊢
    have w13 := (w1.trans w2).trans w3
    refine ⟨D1, l3, es1, _, rfl, rfl, w13 _ _ hD1, k3, by rw [les1]; show 4 ≤ sizeLine; decide, fun l4 n4 => ?_⟩
    have w4 := same_upd (o := .lst (es1 ++ [.ref t2])) n4
    have k4 : (upd H7 l4 (.lst (es1 ++ [.ref t2]))) l4 = some (.lst (es1 ++ [.ref t2])) := upd_same
    generalize upd H7 l4 (.lst (es1 ++ [.ref t2])) = H8 at w4 k4 ⊢
    have w14 := w13.trans w4
    have hm4 : DpAll K H8 (es1 ++ [.ref t2]) (((List.range 3).map (mA ws cs) ++ [(⟨cs.getD 3 [], ws.getD 3 [], []⟩ : MRow)]).map MRow.d) := by
      rw [List.map_append]
      exact dpAll_appI (dpAll_same w14 hes1) (.cons (dp_same (w3.trans w4) d2) .nil)
    have hl1 := w14 _ _ hl1
    have hl2 := w14 _ _ hl2
    -- three more
    refine ⟨_, rfl, 3, rfl, by decide, by decide, fun D2 nD2 => ?_⟩
    refine lc_datR (K := K) (lo := 0) (n := Int.toNat 3) (f := fun k => (mB ws cs k).d) (p := fun _ => true) (fun k _ => MRow.imm _) (by decide) nD2 (fun k U X F hk sU hX _ => ?_) fun H9 es2 s9 hD2 hes2 => ?_
    · rw [Int.zero_add]
      have hk : k < 3 := hk
      refine ⟨rfl, yesT ?_⟩
      refine ⟨_, rfl, _, rfl, _, _, rfl, rfl, l2, nmV cs, _, _, rfl, rfl, SqL.of (sU _ _ hl2), (by rw [four]; exact vat (xs := cs) (k := 4 + k) (by omega)), ?_⟩
      refine ⟨_, rfl, _, rfl, l1, nmV ws, _, _, rfl, rfl, SqL.of (sU _ _ hl1), vat (k := k) (by omega), ?_⟩
      refine ⟨_, rfl, _, rfl, _, _, rfl, rfl, l1, nmV ws, _, _, rfl, rfl, SqL.of (sU _ _ hl1), (by rw [one]; exact vat (k := k + 1) (by omega)), ?_⟩
      refine ⟨_, rfl, _, rfl, l1, nmV ws, _, _, rfl, rfl, SqL.of (sU _ _ hl1), vat (k := k) (by omega), ?_⟩
      refine ⟨by show 2 ≤ sizeLine; decide, fun t1 n1 => ?_⟩
      have w1 := same_upd (o := .tup [.str (SX.S (ws.getD (k + 1) [])), .str (SX.S (ws.getD k []))]) n1
      refine ⟨by show 3 ≤ sizeLine; decide, fun t3 n3 => hX rfl _ _ (w1.trans (same_upd n3)) ?_⟩
      exact .tup (SqT.of upd_same) (.cons (.str _) (.cons (.str _) (.cons (.tup (SqT.of ((same_upd n3) _ _ upd_same)) (.cons (.str _) (.cons (.str _) .nil))) .nil)))
    have hes2 : DpAll K H9 es2 (((List.range 3).map (mB ws cs)).map MRow.d) := by
      rw [List.filter_eq_self.mpr (fun _ _ => rfl)] at hes2
      rw [List.map_map]
      exact hes2
    have les2 : es2.length = 3 := by
      rw [dpAll_len hes2, List.length_map, List.length_map, List.length_range]
    refine ⟨l4, D2, _, es2, rfl, rfl, s9 _ _ k4, hD2, by rw [List.length_append, les1, les2]; show 7 ≤ sizeLine; decide, fun l5 n5 => ?_⟩
    have w5 := same_upd (o := .lst (es1 ++ [.ref t2] ++ es2)) n5
    have k5 : (upd H9 l5 (.lst (es1 ++ [.ref t2] ++ es2))) l5 = some (.lst (es1 ++ [.ref t2] ++ es2)) := upd_same
    generalize upd H9 l5 (.lst (es1 ++ [.ref t2] ++ es2)) = H10 at w5 k5 ⊢
    have w410 := s9.trans w5
    have hm5 : DpAll K H10 (es1 ++ [.ref t2] ++ es2) ((mAll ws cs).map MRow.d) := by
      unfold mAll
      rw [List.map_append]
      exact dpAll_appI (dpAll_same w410 hm4) (dpAll_same w5 hes2)
    have wA := (s4.trans w14).trans w410
    have bt10 := bt3.trans (But.of wA)
    have hl1 := w410 _ _ hl1
    have hb10 := wA _ _ hb3
    have l7 : (es1 ++ [V.ref t2] ++ es2).length = 7 := by
      rw [List.length_append, List.length_append, les1, les2]
      rfl
    have n5a : l5 ≠ a := (ne_of_none ((s9.trans (Same.refl _)) _ _ (w14 _ _ (s4 _ _ hb3))) n5).symm
    clear hes1 hes2 hm4 k4 hD1 hD2 k3 d2 k1
    -- the dict
    refine fun gd ngd => ?_
    have w6 := same_upd (o := .dK []) ngd
    have k6 : (upd H10 gd (.dK [])) gd = some (.dK []) := upd_same
    generalize upd H10 gd (.dK []) = H11 at w6 k6 ⊢
    have hl1 := w6 _ _ hl1
    refine ⟨_, rfl, l1, rfl, ⟨_, SqL.of hl1⟩, fun D3 nD3 => ?_⟩
    refine lc_dat (xs := ws) (fv := fun w => V.str (SX.S w)) (f := fun w => SRow.d ⟨w, [], [XL]⟩) (p := fun _ => true) hl1 (fun w _ => SRow.imm _) (by omega) nD3 (fun w U X F _ sU hX _ => ?_) fun H12 kv s12 hk dk => ?_
    · refine ⟨rfl, yesT ?_⟩
      refine ⟨_, rfl, by show 0 ≤ sizeLine; decide, fun t1 n1 => ⟨by show 1 ≤ sizeLine; decide, fun t2 n2 => ⟨by show 3 ≤ sizeLine; decide, fun t3 n3 => hX rfl _ _ ?_ ?_⟩⟩⟩
      · exact ((same_upd n1).trans (same_upd n2)).trans (same_upd n3)
      · have s3 := same_upd (o := .tup [.str (SX.S w), .ref t1, .ref t2]) n3
        have s23 := (same_upd (o := .tup [.str "x"]) n2).trans s3
        exact .tup (SqT.of upd_same) (.cons (.str _) (.cons (.tup (SqT.of (s23 _ _ upd_same)) .nil) (.cons (.tup (SqT.of (s3 _ _ upd_same)) (.cons dp_x .nil)) .nil)))
    rw [List.filter_eq_self.mpr (fun _ _ => rfl)] at dk
    have dk : DpAll K H12 kv ((kSo ws).map SRow.d) := by
      unfold kSo
      rw [List.map_map]
      exact dk
    have w612 := w6.trans s12
    have hb12 := w612 _ _ hb10
    have nD3a : D3 ≠ a := (ne_of_none (w6 _ _ hb10) nD3).symm
    have ngda : gd ≠ a := (ne_of_none hb10 ngd).symm
    refine ⟨_, rfl, _, rfl, a, l5, _, b2, _, rfl, hb12, hB2, by rw [l7]; omega, SqL.of (w612 _ _ k5), n5a, by rw [l7]; decide, fun H13 l6 ys b3 bt13 nl6 hl6 pm hb13 hB13 => ?_⟩
    have n6gd : H13 gd = some (.dK []) := bt13 _ _ ngda (s12 _ _ k6)
    refine ⟨n6gd, [(Sum.inr "sorts", .ref D3), (Sum.inr "makings", .ref l6)], rfl, by show 2 ≤ 15; decide, ?_⟩
    obtain ⟨ms, pm2, dm⟩ := rows_perm pm (dpAll_same w612 hm5)
    have kA : KeepT H12 H13 := KeepT.but hb12 bt13
    have nlg : l6 ≠ gd := fun z => by
      rw [z, s12 _ _ k6] at nl6
      cases nl6
    have nDg : D3 ≠ gd := (ne_of_none k6 nD3).symm
    have n6a : l6 ≠ a := (ne_of_none hb12 nl6).symm
    have kB : KeepT H13 (upd H13 gd (.dK (mergeK [] [(Sum.inr "sorts", .ref D3), (Sum.inr "makings", .ref l6)]))) := KeepT.at_ n6gd dK_no
    have bt13' : But a H (upd H13 gd (.dK (mergeK [] [(Sum.inr "sorts", .ref D3), (Sum.inr "makings", .ref l6)]))) := fun x o hx he => by
      rw [upd_ne (ne_of_none he (But.free bt10 hb10 ngd))]
      exact ((bt10.trans (But.of w612)).trans bt13) x o hx he
    refine q _ gd (kSo ws) ms b3 bt13' ⟨D3, l6, _, kv, ys, upd_same, rfl, rfl, ?_, dpAll_imm (kA.trans kB) dk (immAll_map SRow.imm (kSo ws)), ?_, dpAll_imm (kA.trans kB) dm (immAll_map MRow.imm ms), nD3a, n6a, ngda⟩ (gfitM (kso_ok nd1 ok1 (by omega)) ?_ (fun m hm => mAll_ok e1 e2 ok2 m (pm2.subset hm)) ?_) ?_ (hB13.mono (by rw [l7]; omega))
    · rw [upd_ne nDg]
      exact bt13 _ _ nD3a hk
    · rw [upd_ne nlg]
      exact hl6
    · have := pm2.map MRow.nm
      rw [mAll_nm e2] at this
      exact this.nodup_iff.mpr (nd2.sublist (List.take_sublist 7 cs))
    · rw [pm2.length_eq, show (mAll ws cs).length = 7 from rfl]
      decide
    · rw [upd_ne (Ne.symm ngda)]
      exact hb13
end
/-- the same over a tuple -/
theorem lc_datTS {K : PySem.W.Frag} {L D : Addr} {α : Type} {xs : List α} {fv : α → V} {f : α → PyData} {p : α → Bool} {g : TG} {tt : TT} {te : TE} {vs : List Nat} {σ : L2.St} {Y : Hp} {Qd : Hp → Prop} (hL : SqT K Y L (xs.map fv)) (hi : ∀ x ∈ xs, imm (f x) = true) (hl : xs.length ≤ 500) (nD : Y D = none)
    (hs : ∀ (x : α) (U : Hp) (X : VK) (F : Hp → Prop), x ∈ xs → Same Y U → (p x = true → ∀ y H4, Same U H4 → Dp K H4 y (f x) → X y H4) → (p x = false → ∀ H4, Same U H4 → F H4) → g (fv x) (wipe σ vs) U fun σ2 H2 => wipe σ2 vs = wipe σ vs ∧ tt σ2 H2 fun b H3 => if b = true then te σ2 H3 X else F H3)
    (hd : ∀ (U : Hp) (es : List V), Same Y U → U D = some (.lst es) → DpAll K U es ((xs.filter p).map f) → Qd U) :
    ∃ W : Nat → Nat → Hp → Prop, (∃ m, W 0 m (upd Y D (.lst []))) ∧ ∀ i m H, W i m H →
      ((Itt K L).stop i H ∧ Qd H) ∨ ((Itt K L).go i H ∧ ∃ Nx : Hp → Prop, (∀ H', Nx H' → ∃ m', m' < m ∧ W (i + 1) m' H') ∧ ∀ x H', (Itt K L).yld i H x H' → g x (wipe σ vs) H' fun σ2 H2 => wipe σ2 vs = wipe σ vs ∧ tt σ2 H2 fun b H3 =>
        if b = true then te σ2 H3 fun y H4 => ∃ acc, H4 D = some (.lst acc) ∧ acc.length < sizeLine ∧ Nx (upd H4 D (.lst (acc ++ [y]))) else Nx H3) := by
  refine lc_it (walk_tup (K := K) (a := L) (xs := xs.map fv)) (fun j U => Same Y U ∧ ∃ es : List V, U D = some (.lst es) ∧ DpAll K U es (((xs.take j).filter p).map f)) ⟨same_upd nD, [], upd_same, .nil⟩ (fun j U _ h => sqT_s h.1 hL) ?_ ?_
  · rintro j v U U' hx ⟨sU, es, hD, hp⟩ ⟨rfl, hv⟩
    have hv : (xs.map fv)[j]? = some v := hv
    rw [List.getElem?_map] at hv
    obtain ⟨x, hx2, rfl⟩ : ∃ x, xs[j]? = some x ∧ v = fv x := by
      cases h : xs[j]? with
      | none => rw [h] at hv; cases hv
      | some e => rw [h] at hv; exact ⟨e, rfl, (Option.some.inj hv).symm⟩
    have hj : j < xs.length := (List.getElem?_eq_some_iff.mp hx2).1
    have tk : xs.take (j + 1) = xs.take j ++ [x] := by rw [List.take_add_one, hx2]; rfl
    have le := dpAll_len hp
    have : ((xs.take j).filter p).length ≤ j := Nat.le_trans (List.length_filter_le _ _) (by rw [List.length_take]; omega)
    rw [List.length_map] at le
    refine hs x U' _ _ (List.mem_of_getElem? hx2) sU (fun px y H4 s4 hy => ?_) (fun px H4 s4 => ?_)
    · have hD4 := s4 _ _ hD
      refine ⟨_, hD4, small1000 (by omega), Same.at_ (sU.trans s4) nD, _, upd_same, ?_⟩
      have kk : KeepT H4 (upd H4 D (.lst (es ++ [y]))) := KeepT.at_ hD4 lst_no
      rw [tk, List.filter_append, List.map_append, List.filter_cons_of_pos px]
      have a1 := dpAll_imm ((KeepT.of s4).trans kk) hp (immAll_of2 fun d hd => by
        obtain ⟨z, hz, rfl⟩ := List.mem_map.mp hd
        exact hi z (List.mem_of_mem_take (List.mem_filter.mp hz).1))
      exact dpAll_appI a1 (.cons (dp_imm kk hy (hi x (List.mem_of_getElem? hx2))) .nil)
    · refine ⟨sU.trans s4, es, s4 _ _ hD, ?_⟩
      rw [tk, List.filter_append, List.filter_cons_of_neg (by rw [px]; decide), List.filter_nil, List.append_nil]
      exact dpAll_same s4 hp
  · rintro U ⟨sU, es, hD, hp⟩
    rw [List.length_map, List.take_length] at hp
    exact hd U es sU hD hp
/-! ### the law -/
abbrev s__law_right : Stmt := top 74
abbrev N__law_right : List Str := ["_law_box", "_law_turn", "_law_g", "_law_makings", "_law_grammar", "_law_best", "_law_name", "_law_sizes", "_law_due", "_law_again", "_law_strange", "_law_bare", "_law_row", "_law_size"]
abbrev P__law_right : List Str := ["_law_box"]
theorem sc__law_right : FnScope N__law_right P__law_right (defScope s__law_right) := ⟨rfl, rfl, rfl, by decide +kernel, rfl, by decide +kernel, by decide +kernel⟩
abbrev s_law : Stmt := top 75
abbrev N_law : List Str := ["_law_script", "_law_cells", "_law_k"]
abbrev P_law : List Str := ["_law_script"]
theorem sc_law : FnScope N_law P_law (defScope s_law) := ⟨rfl, rfl, rfl, by decide +kernel, rfl, by decide +kernel, by decide +kernel⟩
structure GMk0 (P : Program) (w : World) (K : PySem.W.Frag) (mg : Str → Option Value) (base : Heap) (G : Addr) : Prop where
  ex : ∃ (f : Addr) (fd : FuncData) (ds : List Value), FnOk P w K mg base CX0 6 f fd P_GI (spGI K P w G) ∧ Mk K G f ∧ mg "Grammar" = some (.ref G) ∧ Binds K fd P_GI ds ∧ Vals [.int 0] ds
theorem gmk0_of {P : Program} {w : World} {K : PySem.W.Frag} {mg : Str → Option Value} {base : Heap} {G f : Addr} {fd : FuncData} (F : FunD K "__init__" "Grammar.__init__" (defArgs s_GI) (defBody s_GI) (defScope s_GI) [] [("cap", .int 0)] f fd) (ok : FnOk P w K mg base CX0 6 f fd P_GI (spGI K P w G)) (M : Mk K G f) (hm : mg "Grammar" = some (.ref G)) : GMk0 P w K mg base G := by
  obtain ⟨ds, hv, hb⟩ := FunD.binds0 (ps := P_GI) F 4 (by simp) rfl (fun D doc pm an cdv ct us ks hl hk => match us, ks, hl, hk with
    | [_, _, _, _], [_], _, _ => ⟨_, _, _, _, _, _, rfl, rfl, rfl⟩)
  exact ⟨f, fd, ds, ok, M, hm, hb, hv⟩
theorem mk_gram {P : Program} {w : World} {K : PySem.W.Frag} {G : Addr} {H : Hp} {ls lm lr : Addr} {sv mv rv : List V} {rs : List SRow} {ms : List MRow} {ru : List RRow} {x dx : Addr} {R : Hp → Prop} {E : XK} (nx : H x = none) (ndx : H dx = none) (ndd : dx ≠ x) (hls : H ls = some (.lst sv)) (hlm : H lm = some (.lst mv)) (hlr : H lr = some (.lst rv)) (d1 : DpAll K H sv (rs.map SRow.d)) (d2 : DpAll K H mv (ms.map MRow.d)) (d3 : DpAll K H rv (ru.map RRow.d)) (gf : GFit rs ms ru 0)
    (q : ∀ (H' : Hp), Same H H' → GrOk K P w G H H' x rs ms ru 0 → R H') :
    spGI K P w G (.ref x :: ([.ref ls, .ref lm, .ref lr] ++ [.int 0])) (upd (upd H dx (.own x)) x (.ins G dx [])) (fun v H2 => v = .non ∧ R H2) E := by
  have nx2 : (upd H dx (.own x)) x = none := by
    rw [upd_ne (Ne.symm ndd)]
    exact nx
  have s5 := (same_upd (o := .own x) ndx).trans (same_upd (o := .ins G dx []) nx2)
  exact ⟨x, dx, ls, lm, lr, 0, sv, mv, rv, rs, ms, ru, rfl, upd_same, s5 _ _ hls, s5 _ _ hlm, s5 _ _ hlr, dpAll_same s5 d1, dpAll_same s5 d2, dpAll_same s5 d3, gf, fun H' bt gr => ⟨rfl, q _ (fun b o hb => bt b o (ne_of_none hb nx) (s5 b o hb)) (gr.less s5)⟩⟩
/-- what is_tree says of a least tree -/
theorem mOf_is {ms : List MRow} (nd : (ms.map MRow.nm).Nodup) {m : MRow} (hm : m ∈ ms) : mOf ms (strD m.nm) = some m := by
  cases h : mOf ms (strD m.nm) with
  | none => exact absurd rfl (mOf_none h m hm)
  | some m' =>
    obtain ⟨h1, h2⟩ := mOf_some h
    have e : SX.S m.nm = SX.S m'.nm := by
      have h2 : PyData.str (SX.S m.nm) = .str (SX.S m'.nm) := h2
      exact PyData.str.inj h2
    rw [nodup_eq nd h1 hm (SX.S_inj e).symm]
theorem isTr_bs {ms : List MRow} (nd : (ms.map MRow.nm).Nodup) : ∀ (n k : Nat) (s : List Nat) (t : PyData), k ≤ n → Bs ms k s = some t → isTr ms n (some (SX.S s)) t = true
  | 0, k, s, t, hk, h => by
    obtain rfl : k = 0 := by omega
    cases h
  | n + 1, k, s, t, hk, h => by
    obtain ⟨m, hm, rfl, zs, pk, en, rfl⟩ := bs_of h
    have all : ∀ {pt : List (List Nat)} {zs : List (Nat × PyData)}, PkL (Bs ms) pt zs → (∀ z ∈ zs, z.1 ≤ n) → allZ (isTr ms n) (zs.map (·.2)) pt = true ∧ zs.length = pt.length := by
      intro pt zs pk hz
      unfold PkL at pk
      induction pk with
      | nil => exact ⟨rfl, rfl⟩
      | @cons p z pt zs a r ih =>
        obtain ⟨i1, i2⟩ := ih fun z' h' => hz z' (List.mem_cons_of_mem _ h')
        refine ⟨?_, by rw [List.length_cons, List.length_cons, i2]⟩
        show (isTr ms n (some (SX.S p)) z.2 && allZ (isTr ms n) (zs.map (·.2)) pt) = true
        rw [isTr_bs nd n z.1 p z.2 (hz z List.mem_cons_self) a, i1]
        rfl
    obtain ⟨a1, a2⟩ := all pk fun z hz => by
      have := sumZ_le hz
      omega
    show nodeB ms (isTr ms n) (some (SX.S m.so)) (.tuple [strD m.nm, .int 0, .tuple (zs.map (·.2))]) = true
    show (match mOf ms (strD m.nm) with
      | some m' => worthB (.int 0) && (tupN m'.pt.length (.tuple (zs.map (·.2))) && (dueB (some (SX.S m.so)) (SX.S m'.so) && allZ (isTr ms n) (zs.map (·.2)) m'.pt))
      | none => false) = true
    rw [mOf_is nd hm]
    show (worthB (.int 0) && (tupN m.pt.length (.tuple (zs.map (·.2))) && (dueB (some (SX.S m.so)) (SX.S m.so) && allZ (isTr ms n) (zs.map (·.2)) m.pt))) = true
    rw [a1]
    have e1 : worthB (.int 0) = true := by decide +kernel
    have e2 : tupN m.pt.length (.tuple (zs.map (·.2))) = true := decide_eq_true (by rw [List.length_map, a2])
    have e3 : dueB (some (SX.S m.so)) (SX.S m.so) = true := decide_eq_true rfl
    rw [e1, e2, e3]
    rfl
theorem TrF.sm : ∀ {n : Nat} {x : PyData}, TrF n x → Sm (2 * n) x
  | 0, _, h => h.elim
  | n + 1, _, ⟨m, ps, rfl, l2, h⟩ => by
    refine .tup (2 * n + 1) (by show 3 ≤ 500; decide) fun d hd => ?_
    simp only [List.mem_cons, List.not_mem_nil, or_false] at hd
    rcases hd with rfl | rfl | rfl
    · exact .str _ _
    · exact .int _ _
    · exact .tup (2 * n) (by omega) fun p hp => (h p hp).sm
theorem filter_head {p : Nat → Bool} : ∀ {n k : Nat} {r : List Nat}, (List.range n).filter p = k :: r → p k = true ∧ k < n ∧ ∀ j < k, p j = false
  | 0, k, r, h => by cases h
  | n + 1, k, r, h => by
    rw [List.range_succ, List.filter_append] at h
    cases e : (List.range n).filter p with
    | nil =>
      rw [e] at h
      have no : ∀ j < n, p j = false := fun j hj => by
        have := List.filter_eq_nil_iff.mp e j (List.mem_range.mpr hj)
        simpa using this
      cases hp : p n with
      | true =>
        rw [List.filter_cons_of_pos hp] at h
        cases h
        exact ⟨hp, by omega, no⟩
      | false =>
        rw [List.filter_cons_of_neg (by rw [hp]; decide)] at h
        cases h
    | cons k' r' =>
      rw [e] at h
      cases h
      obtain ⟨h1, h2, h3⟩ := filter_head e
      exact ⟨h1, by omega, h3⟩
theorem GSM.but {K : PySem.W.Frag} {Y Y' : Hp} {a gd : Addr} {b : List V} {rs : List SRow} {ms : List MRow} (h : GSM K Y a gd rs ms) (hb : Y a = some (.lst b)) (t : But a Y Y') : GSM K Y' a gd rs ms := by
  obtain ⟨ls, lm, kvs, sv, mv, h1, c1, c2, h2, h3, h4, h5, n1, n2, n3⟩ := h.ex
  exact ⟨ls, lm, kvs, sv, mv, t _ _ n3 h1, c1, c2, t _ _ n1 h2, dpAll_imm (KeepT.but hb t) h3 (immAll_map SRow.imm rs), t _ _ n2 h4, dpAll_imm (KeepT.but hb t) h5 (immAll_map MRow.imm ms), n1, n2, n3⟩
theorem GSM.same {K : PySem.W.Frag} {Y Y' : Hp} {a gd : Addr} {rs : List SRow} {ms : List MRow} (h : GSM K Y a gd rs ms) (t : Same Y Y') : GSM K Y' a gd rs ms := by
  obtain ⟨ls, lm, kvs, sv, mv, h1, c1, c2, h2, h3, h4, h5, n1, n2, n3⟩ := h.ex
  exact ⟨ls, lm, kvs, sv, mv, t _ _ h1, c1, c2, t _ _ h2, dpAll_same t h3, t _ _ h4, dpAll_same t h5, n1, n2, n3⟩
theorem GramIn.gsm {K : PySem.W.Frag} {Y : Hp} {a gd : Addr} {b : List V} {rs : List SRow} {ms : List MRow} {ru : List RRow} {roof : Nat} (h : GramIn K Y a gd rs ms ru roof) (hb : Y a = some (.lst b)) : GSM K Y a gd rs ms := by
  obtain ⟨ls, lm, lr, of, gkv, gs, _⟩ := h.ex
  obtain ⟨sv, hls, hsv⟩ := gs.hls
  obtain ⟨mv, hlm, hmv⟩ := gs.hlm
  exact ⟨ls, lm, gkv, sv, mv, gs.hgd, gs.so, gs.mak, hls, hsv, hlm, hmv, gs.n1, gs.n2, fun z => by
    have := gs.hgd
    rw [z, hb] at this
    cases this⟩
theorem get_kS {Y : Hp} {d : Addr} {kvs : List (Key × V)} {k : Str} {u : V} (h : Y d = some (.dK kvs)) (e : valV kvs (Sum.inr k) = some u) : DGet Y d (.str k) (some u) := by
  have h := DGet.k (k := Sum.inr k) h
  rw [e] at h
  exact h
theorem gf_sub {rs : List SRow} {ms ms' : List MRow} {ru : List RRow} (g : GFit rs ms ru 0) (s : ms'.Sublist ms) : GFit rs ms' [] 0 := gfitM g.so (g.nd.sublist (s.map _)) (fun m hm => g.ok m (s.subset hm)) (Nat.le_trans s.length_le g.m8)
def DueIs (ms : List MRow) (s : List Nat) (d : PyData) : Prop := (∃ k, IsLeast ms s k d) ∨ (d = .none ∧ ∀ k ≤ 15, Bs ms k s = none)
theorem IsLeast.eq {ms : List MRow} {s : List Nat} {k j : Nat} {t u : PyData} (h : IsLeast ms s k t) (g : IsLeast ms s j u) : t = u := by
  obtain ⟨h1, h2, h3⟩ := h
  obtain ⟨g1, g2, g3⟩ := g
  have e : k = j := by
    rcases Nat.lt_trichotomy k j with l | l | l
    · have := g2 k l
      rw [h1] at this
      cases this
    · exact l
    · have := h2 j l
      rw [g1] at this
      cases this
  subst e
  exact Option.some.inj (h1.symm.trans g1)
theorem DueIs.uniq {ms : List MRow} {s : List Nat} {d t : PyData} {k : Nat} (h : DueIs ms s d) (g : IsLeast ms s k t) : t = d := by
  rcases h with ⟨j, h⟩ | ⟨_, h⟩
  · exact g.eq h
  · have := h k g.2.2
    rw [g.1] at this
    cases this
theorem DueIs.no {ms : List MRow} {s : List Nat} {d : PyData} (h : DueIs ms s d) (g : ∀ j, Bs ms j s = none) : d = .none := by
  rcases h with ⟨j, h⟩ | ⟨h, _⟩
  · have := g j
    rw [h.1] at this
    cases this
  · exact h
def pSz (ms : List MRow) (s : List Nat) (k : Nat) : Bool := (Bf ms 15 (k + 1) s).isSome
theorem due_nil {ms : List MRow} {s : List Nat} (h : (List.range 15).filter (pSz ms s) = []) : DueIs ms s .none := by
  refine .inr ⟨rfl, fun k hk => ?_⟩
  cases k with
  | zero => exact Bs_z ms s
  | succ k =>
    have := List.filter_eq_nil_iff.mp h k (List.mem_range.mpr (by omega))
    rw [← Bf_le ms 15 (k + 1) s hk]
    unfold pSz at this
    cases e : Bf ms 15 (k + 1) s with
    | none => rfl
    | some t => exact absurd (by rw [e]; rfl) this
theorem due_cons {ms : List MRow} {s : List Nat} {k : Nat} {r : List Nat} (h : (List.range 15).filter (pSz ms s) = k :: r) : ∃ t, Bf ms 15 (k + 1) s = some t ∧ IsLeast ms s (k + 1) t := by
  obtain ⟨h1, h2, h3⟩ := filter_head h
  unfold pSz at h1 h3
  cases e : Bf ms 15 (k + 1) s with
  | none =>
    rw [e] at h1
    cases h1
  | some t =>
    refine ⟨t, rfl, (Bf_le ms 15 (k + 1) s (by omega)).symm.trans e, fun j hj => ?_, by omega⟩
    cases j with
    | zero => exact Bs_z ms s
    | succ j =>
      rw [← Bf_le ms 15 (j + 1) s (by omega)]
      have := h3 j (by omega)
      cases e : Bf ms 15 (j + 1) s with
      | none => rfl
      | some t =>
        rw [e] at this
        cases this
theorem DueIs.sm {ms : List MRow} {s : List Nat} {d : PyData} (h2 : ∀ m ∈ ms, m.pt.length ≤ 2) (h : DueIs ms s d) : Sm 30 d := by
  rcases h with ⟨j, h⟩ | ⟨rfl, _⟩
  · exact (bs_tr h2 j h.1).sm.up (by have := h.2.2; omega)
  · exact .non _
theorem dp_sizes {K : PySem.W.Frag} {H : Hp} : ∀ (ns : List Nat), DpAll K H (ns.map fun k => V.int (1 + (k : Nat))) (ns.map fun k => PyData.int (1 + (k : Nat)))
  | [] => .nil
  | _ :: ns => .cons (.int _) (dp_sizes ns)
theorem lay_sizes : ∀ ns : List Nat, PyData.canLayAll0 (ns.map fun k => PyData.int (1 + (k : Nat))) = true
  | [] => rfl
  | k :: ns => lay_sizes ns
theorem dep_sizes : ∀ ns : List Nat, PyData.depthAll (ns.map fun k => PyData.int (1 + (k : Nat))) ≤ 0
  | [] => Nat.le_refl 0
  | k :: ns => Nat.max_le.mpr ⟨Nat.le_refl 0, dep_sizes ns⟩
theorem shaped_sizes (ns : List Nat) : SeqAt.shaped (.list (ns.map fun k => PyData.int (1 + (k : Nat)))) = true := by
  have hl : PyData.canLay0 (.list (ns.map fun k => PyData.int (1 + (k : Nat)))) = true := lay_sizes ns
  have hd : PyData.depth (.list (ns.map fun k => PyData.int (1 + (k : Nat)))) ≤ 64 := Nat.le_trans (Nat.succ_le_succ (dep_sizes ns)) (by decide)
  unfold SeqAt.shaped
  rw [hl, decide_eq_true hd]
  rfl
abbrev STR5 : List (List Nat) := [[97, 97], [97, 98], [97, 99], [97, 100], [97, 101]]
theorem str5 : [V.str "aa", .str "ab", .str "ac", .str "ad", .str "ae"] = nmV STR5 := by with_unfolding_all rfl
theorem left5 {ys : List (List Nat)} (h : ys.length ≤ 4) : ∃ w r, STR5.filter (fun w => !decide (w ∈ ys)) = w :: r ∧ w ∉ ys := by
  cases e : STR5.filter (fun w => !decide (w ∈ ys)) with
  | nil =>
    have := nodup_leA (us := STR5) (f := ys) (by decide) fun x hx => by
      have := List.filter_eq_nil_iff.mp e x hx
      simpa using this
    have l : STR5.length = 5 := rfl
    omega
  | cons w r =>
    have : w ∈ STR5.filter (fun w => !decide (w ∈ ys)) := by rw [e]; exact List.mem_cons_self
    have := (List.mem_filter.mp this).2
    exact ⟨w, r, rfl, by simpa using this⟩
abbrev bareS : SRow := ⟨[115], [], []⟩
theorem bare_nm : NmOk [115] := ⟨⟨by decide, by decide, by decide⟩, by decide⟩
theorem bare_ok : SOk bareS := ⟨bare_nm, (fun _ h => nomatch h), List.nodup_nil, Nat.zero_le _, Nat.zero_le _⟩
theorem bare_so : SortsOk [bareS] := ⟨fun r hr => by
  rcases List.mem_singleton.mp hr with rfl
  exact bare_ok, List.nodup_cons.mpr ⟨fun h => (nomatch h), List.nodup_nil⟩, by decide⟩
theorem bare_fit : GFit [bareS] [] [] 0 := gfitM bare_so List.nodup_nil (fun _ h => nomatch h) (Nat.zero_le _)
theorem bare_fit0 : GFit [] [] [] 0 := gfitM ⟨(fun _ h => nomatch h), List.nodup_nil, Nat.zero_le _⟩ List.nodup_nil (fun _ h => nomatch h) (Nat.zero_le _)
structure Ri17 (mg : Str → Option Value) : Prop where
  range : mg "range" = none
  list : mg "list" = none
  all : mg "all" = none
  max : mg "max" = none
  len : mg "len" = none
def spRightG : Sp := fun vs H Q _ => ∃ (a : Addr) (b : List V), vs = [.ref a] ∧ H a = some (.lst b) ∧ BoxL 0 b ∧ ∀ H', But a H H' → Q (.bl true) H'
def spLaw (K : PySem.W.Frag) : Sp := fun vs H Q _ => ∃ (a : Addr) (ns : List Int), vs = [.ref a] ∧ SqL K H a (ns.map V.int) ∧ ns.length ≤ 63 ∧ ∀ H', Q (.bl true) H'
section
variable {P : Program} {w : World} {K : PySem.W.Frag} {mg : Str → Option Value} {base : Heap} {G C : Addr}
theorem ok_right17 (T : Ri17 mg) (GK : GMk0 P w K mg base G) (c_law_take : C8.Cal P w K mg base 1 "_law_take" spTake []) (c_law_any : C8.Cal P w K mg base 5 "_law_any" (spAny K) []) (c_law_great : C8.Cal P w K mg base 3 "_law_great" (spGreat K) []) (c_law_leasts : C8.Cal P w K mg base 1 "_law_leasts" (spLeastsL K P w) [])
    (cleast_tree : CalX P w K mg base 46 "least_tree" (spLeast1 K P w G C) []) (c_law_same : C8.Cal P w K mg base 41 "_law_same" (spSame K 40) []) (cis_tree0 : C8.Cal P w K mg base 63 "is_tree" (spIsTree K P w G 40 16) [.non]) (cis_tree1 : KCal P w K mg base 63 "is_tree" (spIsTree K P w G 40 16) 2 ["sort"] (fun vs zs => vs ++ zs))
    (c_law_refused : C8.Cal P w K mg base 47 "_law_refused" (spRefused K P w G) []) (D : Dd K mg "_law_right" s__law_right P__law_right) : C8.Cal P w K mg base 64 "_law_right" spRightG [] := by
  obtain ⟨fG, fdG, ds0, FG, GM, gmg, gb0, gd0⟩ := GK.ex
  refine D.cal sc__law_right (fun vs H Q E h => ?_) (fun f cdv A outer s H vs Q E hr h => ?_)
  · obtain ⟨a, b, rfl, _⟩ := h
    rfl
  · obtain ⟨a, b, rfl, ha, hB, q⟩ := h
    refine ⟨_, (pss_cons (ps_for PassesOwn.never rfl (pi_range1 rfl T.range (pa_cons pe_int pa_nil)) (pg_name (i := 1) sc__law_right.nd rfl (Or.inr rfl))
          (pss_cons (ps_set (i := 2) sc__law_right.nd rfl (Or.inr rfl) (pe_ifExp (pt_cmpR op_eq (pv 1) pe_int (nomark _)) (C8.pe_c c_law_great hr (by decide) (by rfl) (pa_cons (pv 0) pa_nil)) (C8.pe_c c_law_any hr (by decide) (by rfl) (pa_cons (pv 0) pa_nil))))
        (C8.pss_cut (ps_setLc (i := 3) (own := [("_law_row", 12)]) (by exact rfl) sc__law_right.nd rfl rfl (sw_true rfl rfl rfl (by decide +kernel)) (pi_list (pe_dget (hu_of hr) (pv 2) pe_str (fun _ _ => rfl))) (blkOk_by (own := [("_law_row", 12)]) (N := N__law_right) (sc := defScope s__law_right) (by decide +kernel)) (fun _ _ _ _ _ => (pg_name (i := 12) sc__law_right.nd rfl (Or.inl rfl))) (fun _ _ _ _ _ => (pts_one (PW.pt (pw_or (pt_cmpR op_ne (pv 1) pe_int (nomark _)) (pw_or1 (pt_cmpR (r := rI0 fun i j => .bl (decide (j < i))) op_gt (C8.pe_c c_law_take hr (by decide) (by rfl) (pa_cons (pv 0) (pa_cons pe_int pa_nil))) pe_int (nomark _))))))) (fun _ _ _ _ _ => (pv 12)))
        (pss_cons (ps_asg (pe_tup (pa_cons (pe_make GM FG (hr.mono (by decide)) (by rfl) gmg gb0 gd0 pass0 (pa_cons (pe_callTy call_list_of (by rfl) T.list (by decide +kernel) (pa_cons (pe_dget (hu_of hr) (pv 2) pe_str (fun _ _ => rfl)) pa_nil)) (pa_cons (pe_callTy call_list_of (by rfl) T.list (by decide +kernel) (pa_cons (pv 3) pa_nil)) (pa_cons (pe_lst pa_nil) pa_nil)))) (pa_cons (C8.pe_c c_law_leasts hr (by decide) (by rfl) (pa_cons (pv 3) pa_nil)) pa_nil))) (pg_tup rfl (pgs_cons (pg_name (i := 4) sc__law_right.nd rfl (Or.inl rfl)) (pgs_cons (pg_name (i := 5) sc__law_right.nd rfl (Or.inr rfl)) pgs_nil))))
        (C8.pss_cut (ps_for PassesOwn.never rfl (pi_list (pe_lc (own := [("_law_row", 12)]) (by exact rfl) sc__law_right.nd (pi_list (pe_dget (hu_of hr) (pv 2) pe_str (fun _ _ => rfl))) (blkOk_by (own := [("_law_row", 12)]) (N := N__law_right) (sc := defScope s__law_right) (by decide +kernel)) (fun _ _ _ _ _ => (pg_name (i := 12) sc__law_right.nd rfl (Or.inl rfl))) (fun _ _ _ _ _ => pts_nil) (fun _ _ _ _ _ => (pe_ix (r := rIxT K) ix_tup (pv 12) pe_int (fun _ _ => rfl))))) (pg_name (i := 6) sc__law_right.nd rfl (Or.inr rfl))
          (C8.pss_cut (ps_setLc (i := 7) (own := [("_law_size", 13)]) (by exact rfl) sc__law_right.nd rfl rfl (sw_true rfl rfl rfl (by decide +kernel)) (pi_range2 rfl T.range (pa_cons pe_int (pa_cons pe_int pa_nil))) (blkOk_by (own := [("_law_size", 13)]) (N := N__law_right) (sc := defScope s__law_right) (by decide +kernel)) (fun _ _ _ _ _ => (pg_name (i := 13) sc__law_right.nd rfl (Or.inl rfl))) (fun _ _ _ _ _ => (pts_one (pt_cmpR (r := rInN K P w) (op_inN (hu9 (hu65 hr))) (pe_tup (pa_cons (pv 6) (pa_cons (pv 13) pa_nil))) (pv 5) (by with_unfolding_all rfl)))) (fun _ _ _ _ _ => (pv 13)))
        (C8.pss_cut (ps_set (i := 8) sc__law_right.nd rfl (Or.inl rfl) (pe_ifExp (pt_cmpR (op_neD hr.units) (pv 7) (pe_lst pa_nil) (nomark _)) (show PE _ _ (tDGetN K P w _ _) from pe_dgetN (hu9 (hu65 hr)) (pv 5) (pe_tup (pa_cons (pv 6) (pa_cons (pe_ix ix_list (pv 7) pe_int (fun _ _ => rfl)) pa_nil))) (fun _ _ => rfl)) pe_non))
        (C8.pss_cut (ps_for PassesOwn.never rfl (pi_range1 rfl T.range (pa_cons pe_int pa_nil)) (pg_name (i := 9) sc__law_right.nd rfl (Or.inl rfl))
          (pss_one (ps_if (pt_not (pt_val (C8.pe_c c_law_same hr (by decide) (by rfl) (pa_cons (pe_cT cleast_tree hr (by decide) (by rfl) takes_no (pa_cons (pv 4) (pa_cons (pv 6) pa_nil))) (pa_cons (pv 8) pa_nil)))))
          (pss_one (ps_ret pe_bl))
          pss_nil)))
        (pss_one (ps_if (PW.pt (pw_and (pt_cmpR op_notN (pv 8) pe_non (nomark _)) (pw_and1 (pt_cmpR op_notBl (pe_kw cis_tree1 hr (by decide) (by rfl) (pa_cons (pv 4) (pa_cons (pe_cT cleast_tree hr (by decide) (by rfl) takes_no (pa_cons (pv 4) (pa_cons (pv 6) pa_nil))) pa_nil)) (pk_cons (pv 6) pk_nil)) pe_bl (nomark _)))))
          (pss_one (ps_ret pe_bl))
          pss_nil))))))
        (pss_cons (ps_setLc (i := 10) (own := [("_law_name", 6)]) (by exact rfl) sc__law_right.nd rfl rfl (sw_true rfl rfl rfl (by decide +kernel)) (pi_tup (pe_tup (pa_cons pe_str (pa_cons pe_str (pa_cons pe_str (pa_cons pe_str (pa_cons pe_str pa_nil))))))) (blkOk_by (own := [("_law_name", 6)]) (N := N__law_right) (sc := defScope s__law_right) (by decide +kernel)) (fun _ _ _ _ _ => (pg_name (i := 6) sc__law_right.nd rfl (Or.inl rfl))) (fun _ _ _ _ _ => (pts_one (pt_cmpR (r := rIn K true) op_notIn_seq (pv 6) (show PE _ _ (tLc (iList K (tDGet (tVar 2) (tC (.str "sorts")))) (gName 12) tYes (tOp (rIxT K) (tVar 12) (tC (.int 0))) [12]) from (pe_lc (own := [("_law_row", 12)]) (by exact rfl) sc__law_right.nd (pi_list (pe_dget (hu_of hr) (pv 2) pe_str (fun _ _ => rfl))) (blkOk_by (own := [("_law_row", 12)]) (by rfl)) (fun _ _ _ _ _ => (pg_name (i := 12) sc__law_right.nd rfl (Or.inl rfl))) (fun _ _ _ _ _ => pts_nil) (fun _ _ _ _ _ => (pe_ix (r := rIxT K) ix_tup (pv 12) pe_int (fun _ _ => rfl))))) (by with_unfolding_all rfl)))) (fun _ _ _ _ _ => (pv 6)))
        (pss_one (ps_if (PW.pt (pw_or (pt_not (pt_val (C8.pe_c c_law_refused hr (by decide) (by rfl) (pa_cons (pv 4) (pa_cons pe_str pa_nil))))) (pw_or1 (pt_not (pt_val (C8.pe_c c_law_refused hr (by decide) (by rfl) (pa_cons (pv 4) (pa_cons (pe_ix ix_list (pv 10) pe_int (fun _ _ => rfl)) pa_nil))))))))
          (pss_one (ps_ret pe_bl))
          pss_nil))))))))
        (pss_cons (ps_set (i := 11) sc__law_right.nd rfl (Or.inl rfl) (pe_make GM FG (hr.mono (by decide)) (by rfl) gmg gb0 gd0 pass0 (pa_cons (pe_lst (pa_cons (pe_tup (pa_cons pe_str (pa_cons (pe_tup pa_nil) (pa_cons (pe_tup pa_nil) pa_nil)))) pa_nil)) (pa_cons (pe_lst pa_nil) (pa_cons (pe_lst pa_nil) pa_nil)))))
        (pss_cons (ps_if (PW.pt (pw_or (pt_cmpR op_notN (pe_cT cleast_tree hr (by decide) (by rfl) takes_no (pa_cons (pv 11) (pa_cons pe_str pa_nil))) pe_non (nomark _)) (pw_or (pt_val (C8.pe_c cis_tree0 hr (by decide) (by rfl) (pa_cons (pv 11) (pa_cons (pe_tup (pa_cons pe_str (pa_cons pe_int (pa_cons (pe_tup pa_nil) pa_nil)))) pa_nil)))) (pw_or1 (pt_val (C8.pe_c cis_tree0 hr (by decide) (by rfl) (pa_cons (pe_make GM FG (hr.mono (by decide)) (by rfl) gmg gb0 gd0 pass0 (pa_cons (pe_lst pa_nil) (pa_cons (pe_lst pa_nil) (pa_cons (pe_lst pa_nil) pa_nil)))) (pa_cons (pe_tup (pa_cons pe_str (pa_cons pe_int (pa_cons (pe_tup pa_nil) pa_nil)))) pa_nil))))))))
          (pss_one (ps_ret pe_bl))
          pss_nil)
        (pss_one (ps_ret pe_bl))))), ?_⟩
    refine ⟨6, rfl, by decide, by decide, for_range (lo := 0) (n := Int.toNat 6) (fun i σ Y => ∃ y1 y2 y3 y4 y5 y6 y7 y8 y9 y10 y11 y12 y13 bj, σ = [some (.ref a), y1, y2, y3, y4, y5, y6, y7, y8, y9, y10, y11, y12, y13] ∧ But a H Y ∧ Y a = some (.lst bj) ∧ BoxL (9000 * i) bj)
      ⟨_, _, _, _, _, _, _, _, _, _, _, _, _, b, rfl, But.refl a H, ha, hB⟩ ?_ ?_⟩
    · rintro i σ Y hi ⟨y1, y2, y3, y4, y5, y6, y7, y8, y9, y10, y11, y12, y13, bj, rfl, bY, hbj, hBj⟩
      have hi6 : i < 6 := hi
      have key : ∀ (X : VK), (∀ (Y1 : Hp) (gd : Addr) (rs : List SRow) (ms : List MRow) (b1 : List V), But a Y Y1 → GSM K Y1 a gd rs ms → GFit rs ms [] 0 → Y1 a = some (.lst b1) → BoxL (9000 * i + 8010) b1 → X (.ref gd) Y1) →
          tIf (tTest (tOp rEq (tVar 1) (tC (V.int 5)))) (tCall (spGreat K) [] C8.E0 (tCons (tVar 0) tNil)) (tCall (spAny K) [] C8.E0 (tCons (tVar 0) tNil)) [some (.ref a), some (.int (0 + (i : Int))), y2, y3, y4, y5, y6, y7, y8, y9, y10, y11, y12, y13] Y X := fun X hX => by
        refine ⟨_, rfl, rfl, _, rfl, ?_⟩
        by_cases h5 : (0 + (i : Int)) = 5
        · refine ifT (decide_eq_true (by rw [h5])) ?_
          exact ⟨_, rfl, a, bj, 9000 * i, rfl, hbj, hBj, by omega, fun H' gd rs ms b' bt gs gf hb hB => hX H' gd rs ms b' bt gs gf hb (hB.mono (by omega))⟩
        · refine ifF (decide_eq_false (fun z => h5 (V.int.inj z))) ?_
          exact ⟨_, rfl, a, 9000 * i, bj, rfl, hbj, hBj, by omega, fun H' gd rs ms ru roof b' bt ngd gi go hb hB => hX H' gd rs ms b' bt (gi.gsm hb) (gfitM go.so go.nd go.ok go.m8) hb hB⟩
      refine key _ fun Y1 gd rs ms b1 bt1 gs gf0 hb1 hB1 => ?_
      -- some makings
      refine ⟨fun σ U => ∃ (D : Addr) (ms' : List MRow) (mv' b2 : List V), σ = [some (.ref a), some (.int (0 + (i : Int))), some (.ref gd), some (.ref D), y4, y5, y6, y7, y8, y9, y10, y11, y12, y13] ∧ But a Y1 U ∧ U a = some (.lst b2) ∧ BoxL (9000 * i + 8020) b2 ∧ ms'.Sublist ms ∧ U D = some (.lst mv') ∧ DpAll K U mv' (ms'.map MRow.d), ?_, ?_⟩
      · obtain ⟨ls, lm, gkv, sv, mv, g1, c1, c2, g2, g3, g4, g5, n1, n2, n3⟩ := gs.ex
        refine ⟨_, rfl, gd, _, rfl, get_kS g1 c2, lm, rfl, ⟨_, SqL.of g4⟩, fun D nD => ?_⟩
        have nDa : D ≠ a := (ne_of_none hb1 nD).symm
        have nlD : lm ≠ D := ne_of_none g4 nD
        have lmv := dpAll_len g5
        rw [List.length_map] at lmv
        have m8 := gf0.m8
        refine lc_list (K := K) (a := lm) (xs := mv) (fun j U => But a Y1 U ∧ U lm = some (.lst mv) ∧ DpAll K U mv (ms.map MRow.d) ∧ ∃ (ms' : List MRow) (es b' : List V), U a = some (.lst b') ∧ BoxL (9000 * i + 8010 + j) b' ∧ ms'.Sublist (ms.take j) ∧ U D = some (.lst es) ∧ DpAll K U es (ms'.map MRow.d)) ⟨But.of (same_upd nD), same_upd nD _ _ g4, dpAll_same (same_upd nD) g5, [], [], b1, same_upd nD _ _ hb1, hB1, List.Sublist.refl _, upd_same, .nil⟩ (fun j U _ h => SqL.of h.2.1) ?_ ?_
        · rintro j v U hv ⟨btU, hlmU, hmvU, ms', es, b', haU, hBU, sub, hD, hes⟩
          have hj8 : j < ms.length := by
            have := (List.getElem?_eq_some_iff.mp hv).1
            omega
          obtain ⟨dd, hdd, hvd⟩ := dpAll_at hmvU hv
          rw [List.getElem?_map] at hdd
          obtain ⟨m, hm, rfl⟩ : ∃ m, ms[j]? = some m ∧ dd = m.d := by
            cases h : ms[j]? with
            | none => rw [h] at hdd; cases hdd
            | some e => rw [h] at hdd; exact ⟨e, rfl, (Option.some.inj hdd).symm⟩
          have tk : ms.take (j + 1) = ms.take j ++ [m] := by rw [List.take_add_one, hm]; rfl
          have lsub := sub.length_le
          rw [List.length_take] at lsub
          have les := dpAll_len hes
          rw [List.length_map] at les
          have put : ∀ (U2 : Hp) (b2 : List V), But a U U2 → U2 a = some (.lst b2) → BoxL (9000 * i + 8010 + (j + 1)) b2 → ∃ acc, U2 D = some (.lst acc) ∧ acc.length < sizeLine ∧ (But a Y1 (upd U2 D (.lst (acc ++ [v]))) ∧ (upd U2 D (.lst (acc ++ [v]))) lm = some (.lst mv) ∧ DpAll K (upd U2 D (.lst (acc ++ [v]))) mv (ms.map MRow.d) ∧ ∃ (ms' : List MRow) (es b' : List V), (upd U2 D (.lst (acc ++ [v]))) a = some (.lst b') ∧ BoxL (9000 * i + 8010 + (j + 1)) b' ∧ ms'.Sublist (ms.take (j + 1)) ∧ (upd U2 D (.lst (acc ++ [v]))) D = some (.lst es) ∧ DpAll K (upd U2 D (.lst (acc ++ [v]))) es (ms'.map MRow.d)) := fun U2 b2 bt2 hb2 hB2 => by
            have hD2 := bt2 _ _ nDa hD
            have kk : KeepT U (upd U2 D (.lst (es ++ [v]))) := (KeepT.but haU bt2).trans (KeepT.at_ hD2 lst_no)
            refine ⟨es, hD2, small1000 (by omega), fun x o hx he => ?_, ?_, dpAll_imm kk hmvU (immAll_map MRow.imm ms), ms' ++ [m], es ++ [v], b2, ?_, hB2, by rw [tk]; exact sub.append (List.Sublist.refl _), upd_same, ?_⟩
            · rw [upd_ne (ne_of_none he nD)]
              exact bt2 x o hx (btU x o hx he)
            · rw [upd_ne nlD]
              exact bt2 _ _ n2 hlmU
            · rw [upd_ne (Ne.symm nDa)]
              exact hb2
            · rw [List.map_append]
              exact dpAll_appI (dpAll_imm kk hes (immAll_map MRow.imm ms')) (.cons (dp_imm kk hvd m.imm) .nil)
          refine ⟨rfl, ?_⟩
          refine ⟨_, rfl, rfl, _, rfl, ?_⟩
          have cons : ∀ (U2 : Hp) (b2 : List V), But a U U2 → U2 a = some (.lst b2) → BoxL (9000 * i + 8010 + (j + 1)) b2 → (But a Y1 U2 ∧ U2 lm = some (.lst mv) ∧ DpAll K U2 mv (ms.map MRow.d) ∧ ∃ (ms' : List MRow) (es b' : List V), U2 a = some (.lst b') ∧ BoxL (9000 * i + 8010 + (j + 1)) b' ∧ ms'.Sublist (ms.take (j + 1)) ∧ U2 D = some (.lst es) ∧ DpAll K U2 es (ms'.map MRow.d)) := fun U2 b2 bt2 hb2 hB2 =>
            ⟨fun x o hx he => bt2 x o hx (btU x o hx he), bt2 _ _ n2 hlmU, dpAll_imm (KeepT.but haU bt2) hmvU (immAll_map MRow.imm ms), ms', es, b2, hb2, hB2, by rw [tk]; exact sub.trans (List.sublist_append_left _ _), bt2 _ _ nDa hD, dpAll_imm (KeepT.but haU bt2) hes (immAll_map MRow.imm ms')⟩
          by_cases t4 : (0 + (i : Int)) = 4
          · refine ifF (by rw [decide_eq_true (by rw [t4] : V.int (0 + (i : Int)) = .int 4)]; rfl) ?_
            refine ⟨_, rfl, a, 3, _, b', rfl, haU, hBU, by omega, by decide, by decide, fun r b3 r0 r3 hB3 => ?_⟩
            have bu : But a U (upd U a (.lst b3)) := But.upd (But.refl a U)
            refine ⟨r, 0, rfl, rfl, _, rfl, ?_⟩
            by_cases h0 : (0 : Int) < r
            · refine ifT (decide_eq_true h0) ?_
              exact ⟨_, rfl, put _ b3 bu upd_same (hB3.mono (by omega))⟩
            · refine ifF (decide_eq_false h0) ?_
              exact cons _ b3 bu upd_same (hB3.mono (by omega))
          · refine ifT (by rw [decide_eq_false (fun z => t4 (V.int.inj z))]; rfl) ?_
            exact ⟨_, rfl, put U b' (But.refl a U) haU (hBU.mono (by omega))⟩
        · rintro U ⟨btU, hlmU, hmvU, ms', es, b', haU, hBU, sub, hD, hes⟩
          rw [lmv, List.take_length] at sub
          exact ⟨D, ms', es, b', rfl, btU, haU, hBU.mono (by omega), sub, hD, hes⟩
      · rintro σ U ⟨D, ms', mv', b2, rfl, btU, haU, hBU, sub, hD, hes⟩
        obtain ⟨ls, lm, gkv, sv, mv, g1, c1, c2, g2, g3, g4, g5, n1, n2, n3⟩ := (gs.but hb1 btU).ex
        have gf := gf_sub gf0 sub
        have pt2 : ∀ m ∈ ms', m.pt.length ≤ 2 := fun m hm => (gf.ok m hm).p2
        refine ⟨_, rfl, gd, _, rfl, get_kS g1 c1, ls, sv, rfl, .inl (SqL.of g2), fun l1 e1 => ?_⟩
        have s1 := same_upd (o := .lst sv) e1
        have k1 : (upd U l1 (.lst sv)) l1 = some (.lst sv) := upd_same
        generalize upd U l1 (.lst sv) = U1 at s1 k1 ⊢
        refine ⟨_, rfl, D, mv', rfl, .inl (SqL.of (s1 _ _ hD)), fun l2 e2 => ?_⟩
        have s2 := same_upd (o := .lst mv') e2
        have k2 : (upd U1 l2 (.lst mv')) l2 = some (.lst mv') := upd_same
        generalize upd U1 l2 (.lst mv') = U2 at s2 k2 ⊢
        refine ⟨by show 0 ≤ sizeLine; decide, fun l3 e3 => ?_⟩
        have s3 := same_upd (o := .lst []) e3
        have k3 : (upd U2 l3 (.lst [])) l3 = some (.lst []) := upd_same
        generalize upd U2 l3 (.lst []) = U3 at s3 k3 ⊢
        have s123 := (s1.trans s2).trans s3
        refine fun x dx nx ndx ndd => mk_gram nx ndx ndd ((s2.trans s3) _ _ k1) (s3 _ _ k2) k3 (dpAll_same s123 g3) (dpAll_same s123 hes) .nil gf fun V4 u4 gx => ?_
        have s4 := s123.trans u4
        refine ⟨_, rfl, D, mv', ms', rfl, s4 _ _ hD, dpAll_same s4 hes, gf.m8, pt2, fun V5 d kvs u5 nd hd tb => ?_⟩
        refine ⟨by show 2 ≤ sizeLine; decide, fun tp nt => ?_⟩
        have s6 := same_upd (o := .tup [.ref x, .ref d]) nt
        refine ⟨tp, _, rfl, SqT.of upd_same, rfl, _, _, rfl, ?_⟩
        refine ⟨_, _, rfl, ?_⟩
        have gx := gx.same (u5.trans s6)
        have hd := s6 _ _ hd
        have tb := tb.same s6
        have sV := (s4.trans u5).trans s6
        generalize upd V5 tp (.tup [.ref x, .ref d]) = VV at gx hd tb sV ⊢
        have hgd := sV _ _ g1
        have hls := sV _ _ g2
        have hsv := dpAll_same sV g3
        have rs4 := gf.so.le
        have haV := sV _ _ haU
        refine ⟨rfl, fun σ Y => ∃ z6 z7 z8 z9 z10 z11 z12 z13, σ = [some (.ref a), some (.int (0 + (i : Int))), some (.ref gd), some (.ref D), some (.ref x), some (.ref d), z6, z7, z8, z9, z10, z11, z12, z13] ∧ Same VV Y, ?_, ?_⟩
        · -- each sort
          refine ⟨_, rfl, gd, _, rfl, get_kS hgd c1, ls, rfl, ⟨_, SqL.of hls⟩, fun Dn nDn => ?_⟩
          refine lc_datV (xs := rs) (fd := SRow.d) (f := fun r => strD r.nm) (p := fun _ => true) hls hsv (fun _ _ => rfl) (by omega) nDn (fun v r W X F hr' sW hv fT fF => ?_) (fun W es sW hD' hp => ?_)
          · obtain ⟨q', v1, v2, rfl, hq, h1, h2⟩ := t3_at (t := sT r) hv
            refine ⟨rfl, yesT ?_⟩
            exact ⟨_, rfl, q', _, 0, _, rfl, rfl, hq, by rfl, fT rfl _ _ (Same.refl _) (.str _)⟩
          · have hnm : es = nmV (rs.map SRow.nm) := by
              rw [List.filter_eq_self.mpr fun _ _ => rfl] at hp
              exact names_of (by rw [List.map_map]; exact hp)
            subst hnm
            refine ⟨Dn, rfl, ⟨_, SqL.of hD'⟩, ?_⟩
            refine for_it walk_list (fun j σ Y' => ∃ z6 z7 z8 z9 z10 z11 z12 z13, σ = [some (.ref a), some (.int (0 + (i : Int))), some (.ref gd), some (.ref D), some (.ref x), some (.ref d), z6, z7, z8, z9, z10, z11, z12, z13] ∧ Same W Y')
              ⟨_, _, _, _, _, _, _, _, rfl, Same.refl _⟩ (fun j σ Y' _ ⟨_, _, _, _, _, _, _, _, _, b⟩ => SqL.of (b _ _ hD')) ?_ ?_
            · rintro j v σ Y0 Y' hj ⟨z6, z7, z8, z9, z10, z11, z12, z13, rfl, sY0⟩ ⟨rfl, hv⟩
              have hv : (nmV (rs.map SRow.nm))[j]? = some v := hv
              obtain ⟨u, hu, rfl⟩ := nmV_k14 hv
              obtain ⟨r, hr', rfl⟩ := List.mem_map.mp (List.mem_of_getElem? hu)
              have sY := sW.trans sY0
              have gx := gx.same sY
              have hd := sY _ _ hd
              have tb := tb.same sY
              -- the sizes
              refine ⟨fun σ U => ∃ (L7 : Addr), σ = [some (.ref a), some (.int (0 + (i : Int))), some (.ref gd), some (.ref D), some (.ref x), some (.ref d), some (.str (SX.S r.nm)), some (.ref L7), z8, z9, z10, z11, z12, z13] ∧ Same Y' U ∧ U L7 = some (.lst (((List.range 15).filter (pSz ms' r.nm)).map fun k => V.int (1 + (k : Nat)))), ?_, ?_⟩
              · refine ⟨1, 16, rfl, by decide, fun D7 nD7 => ?_⟩
                refine lc_datR (K := K) (lo := 1) (n := Int.toNat (16 - 1)) (f := fun k => .int (1 + (k : Nat))) (p := pSz ms' r.nm) (fun _ _ => rfl) (by decide) nD7 (fun k U X F hk sU hX hF => ?_) fun U es sU hD7 hes7 => ?_
                · refine ⟨rfl, ?_⟩
                  refine ⟨_, rfl, _, rfl, by show 2 ≤ sizeLine; decide, fun tk ntk => ?_⟩
                  have w1 := same_upd (o := .tup [.str (SX.S r.nm), .int (1 + (k : Nat))]) ntk
                  have k1 : SqT K (upd U tk (.tup [.str (SX.S r.nm), .int (1 + (k : Nat))])) tk [.str (SX.S r.nm), .int (1 + (k : Nat))] := SqT.of upd_same
                  generalize upd U tk (.tup [.str (SX.S r.nm), .int (1 + (k : Nat))]) = U1 at w1 k1 ⊢
                  have tb1 := tb.same (sU.trans w1)
                  refine ⟨_, rfl, d, tk, kvs, kyD r.nm (k + 1), rfl, .inl ((sU.trans w1) _ _ hd), tb1.ks, key_at k1 (by omega), _, rfl, ?_⟩
                  rw [tb1.is (k + 1) r.nm]
                  cases hp : pSz ms' r.nm k with
                  | true => exact ifT hp ⟨_, rfl, hX hp _ _ w1 (.int _)⟩
                  | false => exact ifF hp (hF hp _ w1)
                · have := dpAll_ints (ns := ((List.range 15).filter (pSz ms' r.nm)).map fun k => (1 + (k : Nat) : Int)) (by rw [List.map_map]; exact hes7)
                  rw [List.map_map] at this
                  subst this
                  exact ⟨D7, rfl, sU, hD7⟩
              rintro σ U ⟨L7, rfl, sU, h7⟩
              have gx := gx.same sU
              have hd := sU _ _ hd
              have tb := tb.same sU
              refine ⟨fun σ W => ∃ (dv : V) (dd : PyData), σ = [some (.ref a), some (.int (0 + (i : Int))), some (.ref gd), some (.ref D), some (.ref x), some (.ref d), some (.str (SX.S r.nm)), some (.ref L7), some dv, z9, z10, z11, z12, z13] ∧ Same U W ∧ Dp K W dv dd ∧ DueIs ms' r.nm dd, ?_, ?_⟩
              · cases e7 : (List.range 15).filter (pSz ms' r.nm) with
                | nil =>
                  rw [e7] at h7
                  refine ⟨_, rfl, by show 0 ≤ sizeLine; decide, fun l8 n8 => ?_⟩
                  have w1 := same_upd (o := .lst []) n8
                  have k8 : (upd U l8 (.lst [])) l8 = some (.lst []) := upd_same
                  generalize upd U l8 (.lst []) = U1 at w1 k8 ⊢
                  exact ⟨.list [], .list [], .lst (SqL.of (w1 _ _ h7)) .nil, .lst (SqL.of k8) .nil, rfl, rfl, _, rfl, ifF rfl ⟨.non, .none, rfl, w1, .non, due_nil e7⟩⟩
                | cons k0 r0 =>
                  obtain ⟨t, bt, il⟩ := due_cons e7
                  rw [e7] at h7
                  refine ⟨_, rfl, by show 0 ≤ sizeLine; decide, fun l8 n8 => ?_⟩
                  have w1 := same_upd (o := .lst []) n8
                  have k8 : (upd U l8 (.lst [])) l8 = some (.lst []) := upd_same
                  generalize upd U l8 (.lst []) = U1 at w1 k8 ⊢
                  have h7' := w1 _ _ h7
                  refine ⟨.list ((k0 :: r0).map fun k => .int (1 + (k : Nat))), .list [], .lst (SqL.of h7') (dp_sizes (k0 :: r0)), .lst (SqL.of k8) .nil, shaped_sizes _, rfl, _, rfl, ifT rfl ?_⟩
                  refine ⟨_, rfl, _, rfl, _, rfl, L7, _, 0, _, rfl, rfl, SqL.of h7', atI_nat (j := 0) rfl, by show 2 ≤ sizeLine; decide, fun tk ntk => ?_⟩
                  have w2 := same_upd (o := .tup [.str (SX.S r.nm), .int (1 + (k0 : Nat))]) ntk
                  have k2 : SqT K (upd U1 tk (.tup [.str (SX.S r.nm), .int (1 + (k0 : Nat))])) tk [.str (SX.S r.nm), .int (1 + (k0 : Nat))] := SqT.of upd_same
                  generalize upd U1 tk (.tup [.str (SX.S r.nm), .int (1 + (k0 : Nat))]) = U2 at w2 k2 ⊢
                  have tb2 := tb.same (w1.trans w2)
                  obtain ⟨v, hv1, hv2⟩ := tb2.ok (k0 + 1) r.nm t bt
                  exact ⟨d, tk, kvs, kyD r.nm (k0 + 1), v, rfl, .inl ((w1.trans w2) _ _ hd), tb2.ks, key_at k2 (by omega), hv1, v, t, rfl, w1.trans w2, hv2, .inl ⟨_, il⟩⟩
              rintro σ W ⟨dv, dd, rfl, sW, hdv, due⟩
              have gx := gx.same sW
              have sm := due.sm pt2
              refine ⟨fun σ X => ∃ z9, σ = [some (.ref a), some (.int (0 + (i : Int))), some (.ref gd), some (.ref D), some (.ref x), some (.ref d), some (.str (SX.S r.nm)), some (.ref L7), some dv, z9, z10, z11, z12, z13] ∧ Same W X, ?_, ?_⟩
              · refine ⟨2, rfl, by decide, by decide, for_range (lo := 0) (n := Int.toNat 2) (fun j σ X => ∃ z9, σ = [some (.ref a), some (.int (0 + (i : Int))), some (.ref gd), some (.ref D), some (.ref x), some (.ref d), some (.str (SX.S r.nm)), some (.ref L7), some dv, z9, z10, z11, z12, z13] ∧ Same W X)
                  ⟨_, rfl, Same.refl _⟩ ?_ ?_⟩
                · rintro k σ X hk ⟨z9, rfl, sX⟩
                  have gx := gx.same sX
                  have fin : ∀ (X1 : Hp) (v : V), Same X X1 → Dp K X1 v dd → True := fun _ _ _ _ => trivial
                  refine ⟨_, rfl, _, rfl, U3, x, SX.S r.nm, rs, ms', [], 0, rfl, gx, gf, .inl ⟨r, hr', rfl, fun X1 v k' t s1 il hv => ?_, fun X1 s1 no => ?_⟩⟩
                  · obtain rfl := due.uniq il
                    refine ⟨_, rfl, v, dv, t, rfl, hv, dp_same (sX.trans s1) hdv, sm.up (by decide), fun X2 s2 => ?_⟩
                    exact ⟨_, rfl, ifF rfl ⟨_, rfl, (sX.trans s1).trans s2⟩⟩
                  · obtain rfl := due.no no
                    refine ⟨_, rfl, .non, dv, .none, rfl, .non, dp_same (sX.trans s1) hdv, .non _, fun X2 s2 => ?_⟩
                    exact ⟨_, rfl, ifF rfl ⟨_, rfl, (sX.trans s1).trans s2⟩⟩
                · rintro σ X ⟨z9, rfl, sX⟩
                  exact ⟨_, rfl, sX⟩
              rintro σ X ⟨z9, rfl, sX⟩
              have gx := gx.same sX
              have hdv := dp_same sX hdv
              have out := (sY0.trans sU).trans (sW.trans sX)
              refine ⟨_, rfl, rfl, _, rfl, ?_⟩
              by_cases hn : dv = .non
              · refine ifF (by rw [decide_eq_true hn]; rfl) ?_
                exact ifF rfl ⟨_, _, _, _, _, _, _, _, rfl, out⟩
              · refine ifT (by rw [decide_eq_false hn]; rfl) ?_
                refine ⟨_, rfl, _, rfl, _, rfl, U3, x, SX.S r.nm, rs, ms', [], 0, rfl, gx, gf, .inl ⟨r, hr', rfl, fun X1 v k' t s1 il hv => ?_, fun X1 s1 no => ?_⟩⟩
                · refine ⟨_, rfl, rfl, rfl, U3, x, v, some (SX.S r.nm), t, rs, ms', [], 0, rfl, gx.same s1, gf.nd, hv, (bs_tr pt2 k' il.1).sm.up (by have := il.2.2; omega), by decide, fun X2 s2 => ?_⟩
                  rw [isTr_bs gf.nd 16 k' r.nm t (by have := il.2.2; omega) il.1]
                  exact ⟨_, _, rfl, rfl, _, rfl, ifF rfl ⟨_, _, _, _, _, _, _, _, rfl, (out.trans s1).trans s2⟩⟩
                · obtain rfl := due.no no
                  cases hdv
                  exact absurd rfl hn
            · rintro σ Y' ⟨z6, z7, z8, z9, z10, z11, z12, z13, rfl, sY⟩
              exact ⟨_, _, _, _, _, _, _, _, rfl, sW.trans sY⟩
        · rintro σ Y ⟨z6, z7, z8, z9, z10, z11, z12, z13, rfl, sY⟩
          have gx := gx.same sY
          have hgd := sY _ _ hgd
          have hls := sY _ _ hls
          have hsv := dpAll_same sY hsv
          have nm0 : ∀ r ∈ rs, ("" : Str) ≠ SX.S r.nm := fun r hr' z => by
            have e : r.nm = [] := SX.S_inj (show SX.S r.nm = SX.S [] from z.symm)
            have := (gf.so.ok r hr').nm.1.1
            rw [e] at this
            exact absurd this (by decide)
          refine ⟨by show 5 ≤ sizeLine; decide, fun t5 n5 => ?_⟩
          have w1 := same_upd (o := .tup (nmV STR5)) n5
          have k5 : SqT K (upd Y t5 (.tup (nmV STR5))) t5 (nmV STR5) := SqT.of upd_same
          rw [str5]
          generalize upd Y t5 (.tup (nmV STR5)) = U1 at w1 k5 ⊢
          refine ⟨t5, rfl, ⟨_, k5⟩, fun D6 n6 => ?_⟩
          refine lc_datTS (K := K) (xs := STR5) (fv := fun w => V.str (SX.S w)) (f := strD) (p := fun w => !decide (w ∈ rs.map SRow.nm)) k5 (fun _ _ => rfl) (by decide) n6 (fun z U2 X F hz sU hX hF => ?_) fun U2 es sU hD6 hes6 => ?_
          · refine ⟨rfl, ?_⟩
            have s2 := w1.trans sU
            refine ⟨_, rfl, _, rfl, gd, _, rfl, get_kS (s2 _ _ hgd) c1, ls, rfl, ⟨_, SqL.of (s2 _ _ hls)⟩, fun Dn nDn => ?_⟩
            refine lc_datV (xs := rs) (fd := SRow.d) (f := fun r => strD r.nm) (p := fun _ => true) (s2 _ _ hls) (dpAll_same s2 hsv) (fun _ _ => rfl) (by omega) nDn (fun v r W X F hr' sW hv fT fF => ?_) (fun W es sW hD' hp => ?_)
            · obtain ⟨q', v1, v2, rfl, hq, h1, h2⟩ := t3_at (t := sT r) hv
              refine ⟨rfl, yesT ?_⟩
              exact ⟨_, rfl, q', _, 0, _, rfl, rfl, hq, by rfl, fT rfl _ _ (Same.refl _) (.str _)⟩
            · have hnm : es = nmV (rs.map SRow.nm) := by
                rw [List.filter_eq_self.mpr fun _ _ => rfl] at hp
                exact names_of (by rw [List.map_map]; exact hp)
              subst hnm
              refine ⟨Dn, _, rfl, .inl (SqL.of hD'), rfl, flat_names _, _, rfl, ?_⟩
              rw [in_names]
              cases hp : !decide (z ∈ rs.map SRow.nm) with
              | true => exact ifT rfl ⟨_, rfl, hX hp _ _ sW (.str _)⟩
              | false => exact ifF rfl (hF hp _ sW)
          · obtain ⟨w5, r5, e5, n5⟩ := left5 (ys := rs.map SRow.nm) (by rw [List.length_map]; exact rs4)
            rw [e5] at hes6
            have hes6 := names_of (ws := w5 :: r5) hes6
            subst hes6
            have s2 := w1.trans sU
            refine ⟨_, rfl, U3, x, "", rs, ms', [], 0, rfl, gx.same s2, gf, nm0, fun U4 s4 => ?_⟩
            refine ⟨_, rfl, ifF rfl ?_⟩
            have nm5 : ∀ r ∈ rs, SX.S w5 ≠ SX.S r.nm := fun r hr' z => n5 (SX.S_inj z ▸ List.mem_map_of_mem hr')
            refine ⟨_, rfl, _, rfl, D6, _, 0, _, rfl, rfl, SqL.of (s4 _ _ hD6), atI_nat (j := 0) rfl, U3, x, SX.S w5, rs, ms', [], 0, rfl, gx.same (s2.trans s4), gf, nm5, fun U5 s5 => ?_⟩
            have all := ((sV.trans sY).trans s2).trans (s4.trans s5)
            refine ⟨_, rfl, ifF rfl ⟨_, _, _, _, _, _, _, _, _, _, _, _, _, b2, rfl, ((bY.trans bt1).trans btU).trans (But.of all), all _ _ haU, hBU.mono (by omega)⟩⟩
    · rintro σ Y ⟨y1, y2, y3, y4, y5, y6, y7, y8, y9, y10, y11, y12, y13, bj, rfl, bY, hbj, hBj⟩
      refine ⟨by show 0 ≤ sizeLine; decide, fun t0 e0 => ⟨by show 0 ≤ sizeLine; decide, fun t1 e1 => ⟨by show 3 ≤ sizeLine; decide, fun t2 e2 => ⟨by show 1 ≤ sizeLine; decide, fun l1 e3 => ?_⟩⟩⟩⟩
      have s0 := same_upd (o := .tup []) e0
      have k0 : (upd Y t0 (.tup [])) t0 = some (.tup []) := upd_same
      generalize upd Y t0 (.tup []) = U0 at s0 k0 e1 e2 e3 ⊢
      have s1 := same_upd (o := .tup []) e1
      have k1 : (upd U0 t1 (.tup [])) t1 = some (.tup []) := upd_same
      generalize upd U0 t1 (.tup []) = U1 at s1 k1 e2 e3 ⊢
      have s2 := same_upd (o := .tup [.str "s", .ref t0, .ref t1]) e2
      have k2 : (upd U1 t2 (.tup [.str "s", .ref t0, .ref t1])) t2 = some (.tup [.str "s", .ref t0, .ref t1]) := upd_same
      generalize upd U1 t2 (.tup [.str "s", .ref t0, .ref t1]) = U2 at s2 k2 e3 ⊢
      have s3 := same_upd (o := .lst [.ref t2]) e3
      have k3 : (upd U2 l1 (.lst [.ref t2])) l1 = some (.lst [.ref t2]) := upd_same
      generalize upd U2 l1 (.lst [.ref t2]) = U3 at s3 k3 ⊢
      refine ⟨by show 0 ≤ sizeLine; decide, fun l2 e4 => ⟨by show 0 ≤ sizeLine; decide, fun l3 e5 => ?_⟩⟩
      have s4 := same_upd (o := .lst []) e4
      have k4 : (upd U3 l2 (.lst [])) l2 = some (.lst []) := upd_same
      generalize upd U3 l2 (.lst []) = U4 at s4 k4 e5 ⊢
      have s5 := same_upd (o := .lst []) e5
      have k5 : (upd U4 l3 (.lst [])) l3 = some (.lst []) := upd_same
      generalize upd U4 l3 (.lst []) = U5 at s5 k5 ⊢
      have dr : Dp K U5 (.ref t2) bareS.d := .tup (SqT.of (((s3.trans s4).trans s5) _ _ k2)) (.cons (.str _) (.cons (.tup (SqT.of ((((s1.trans s2).trans s3).trans (s4.trans s5)) _ _ k0)) .nil) (.cons (.tup (SqT.of (((s2.trans s3).trans (s4.trans s5)) _ _ k1)) .nil) .nil)))
      refine fun x dx nx ndx ndd => mk_gram (rs := [bareS]) (ms := []) (ru := []) nx ndx ndd ((s4.trans s5) _ _ k3) (s5 _ _ k4) k5 (.cons dr .nil) .nil .nil bare_fit fun U6 s6 gx => ?_
      have no : ∀ k : Nat, ∀ t, ¬ IsLeast [] bareS.nm k t := fun k t h => by
        obtain ⟨m, hm, _⟩ := bs_of h.1
        cases hm
      refine ⟨_, rfl, U5, x, "s", [bareS], [], [], 0, rfl, gx, bare_fit, .inl ⟨bareS, List.mem_cons_self, rfl, fun _ _ k t _ h => absurd h (no k t), fun U7 s7 _ => ?_⟩⟩
      refine ⟨rfl, _, rfl, ifF rfl ?_⟩
      refine ⟨_, rfl, by show 0 ≤ sizeLine; decide, fun p0 f0 => ⟨by show 3 ≤ sizeLine; decide, fun p1 f1 => ?_⟩⟩
      have v0 := same_upd (o := .tup []) f0
      have j0 : SqT K (upd U7 p0 (.tup [])) p0 [] := SqT.of upd_same
      generalize upd U7 p0 (.tup []) = W0 at v0 j0 f1 ⊢
      have v1 := same_upd (o := .tup [.str "s", .int 0, .ref p0]) f1
      have d1 : Dp K (upd W0 p1 (.tup [.str "s", .int 0, .ref p0])) (.ref p1) (trD [115] []) := .tup (SqT.of upd_same) (.cons (.str _) (.cons (.int _) (.cons (.tup (sqT_s v1 j0) .nil) .nil)))
      generalize upd W0 p1 (.tup [.str "s", .int 0, .ref p0]) = W1 at v1 d1 ⊢
      have smB : Sm (2 * 16) (trD [115] []) := TrF.sm (n := 16) ⟨[115], [], rfl, Nat.zero_le _, fun _ h => nomatch h⟩
      refine ⟨U5, x, .ref p1, none, trD [115] [], [bareS], [], [], 0, rfl, gx.same ((s7.trans v0).trans v1), List.nodup_nil, d1, smB, by decide, fun W2 v2 => ?_⟩
      refine ⟨_, rfl, ifF rfl ?_⟩
      have w2 := ((s7.trans v0).trans v1).trans v2
      refine ⟨by show 0 ≤ sizeLine; decide, fun m1 g1 => ⟨by show 0 ≤ sizeLine; decide, fun m2 g2 => ⟨by show 0 ≤ sizeLine; decide, fun m3 g3 => ?_⟩⟩⟩
      have r1 := same_upd (o := .lst []) g1
      have h1 : (upd W2 m1 (.lst [])) m1 = some (.lst []) := upd_same
      generalize upd W2 m1 (.lst []) = W3 at r1 h1 g2 g3 ⊢
      have r2 := same_upd (o := .lst []) g2
      have h2 : (upd W3 m2 (.lst [])) m2 = some (.lst []) := upd_same
      generalize upd W3 m2 (.lst []) = W4 at r2 h2 g3 ⊢
      have r3 := same_upd (o := .lst []) g3
      have h3 : (upd W4 m3 (.lst [])) m3 = some (.lst []) := upd_same
      generalize upd W4 m3 (.lst []) = W5 at r3 h3 ⊢
      refine fun x2 dx2 nx2 ndx2 ndd2 => mk_gram (rs := []) (ms := []) (ru := []) nx2 ndx2 ndd2 ((r2.trans r3) _ _ h1) (r3 _ _ h2) h3 .nil .nil .nil bare_fit0 fun W6 r6 gx2 => ?_
      refine ⟨by show 0 ≤ sizeLine; decide, fun p2 f2 => ⟨by show 3 ≤ sizeLine; decide, fun p3 f3 => ?_⟩⟩
      have v3 := same_upd (o := .tup []) f2
      have j2 : SqT K (upd W6 p2 (.tup [])) p2 [] := SqT.of upd_same
      generalize upd W6 p2 (.tup []) = W7 at v3 j2 f3 ⊢
      have v4 := same_upd (o := .tup [.str "s", .int 0, .ref p2]) f3
      have d2 : Dp K (upd W7 p3 (.tup [.str "s", .int 0, .ref p2])) (.ref p3) (trD [115] []) := .tup (SqT.of upd_same) (.cons (.str _) (.cons (.int _) (.cons (.tup (sqT_s v4 j2) .nil) .nil)))
      generalize upd W7 p3 (.tup [.str "s", .int 0, .ref p2]) = W8 at v4 d2 ⊢
      refine ⟨W5, x2, .ref p3, none, trD [115] [], [], [], [], 0, rfl, gx2.same (v3.trans v4), List.nodup_nil, d2, smB, by decide, fun W9 v9 => ?_⟩
      refine ⟨_, rfl, ifF rfl ?_⟩
      exact q _ (((bY.trans (But.of (((s0.trans s1).trans (s2.trans s3)).trans ((s4.trans s5).trans s6)))).trans (But.of w2)).trans (But.of ((((r1.trans r2).trans r3).trans r6).trans ((v3.trans v4).trans v9))))
end
section
variable {P : Program} {w : World} {K : PySem.W.Frag} {mg : Str → Option Value} {base : Heap}
theorem ok_law17 (T : Ri17 mg) (c_law_folded : C8.Cal P w K mg base 1 "_law_folded" (spFold K) []) (c_law_dip : C8.Cal P w K mg base 1 "_law_dip" (spDip K) []) (c_law_right : C8.Cal P w K mg base 64 "_law_right" spRightG [])
    {f : Addr} {fd : FuncData} (F : L2.Fun K "law" "law" s_law f fd) : FnOk P w K mg base CX0 65 f fd ["_law_script"] (spLaw K) := by
  refine F.ok sc_law (fun vs H Q E h => ?_) (fun cdv A outer s H vs Q E hr h => ?_)
  · obtain ⟨a, ns, rfl, _⟩ := h
    rfl
  · obtain ⟨a, ns, rfl, hS, hlen, q⟩ := h
    refine ⟨_, (pss_cons (ps_set (i := 1) sc_law.nd rfl (Or.inr rfl) (C8.pe_c c_law_folded hr (by decide) (by rfl) (pa_cons (pv 0) (pa_cons pe_int pa_nil))))
        (pss_one (ps_ret (pe_callB (cr_all rfl) (by rfl) T.all (by decide +kernel) (pa_cons (pe_lc (own := [("_law_k", 2)]) (by exact rfl) sc_law.nd (pi_range1 rfl T.range (pa_cons (pe_callB (call_max2 rfl) (by rfl) T.max (by decide +kernel) (pa_cons pe_int (pa_cons (pe_callB call_len_seq (by rfl) T.len PySem.boot_len (pa_cons (pv 1) pa_nil)) pa_nil))) pa_nil)) (blkOk_by (own := [("_law_k", 2)]) (N := N_law) (sc := defScope s_law) (by decide +kernel)) (fun _ _ _ _ _ => (pg_name (i := 2) sc_law.nd rfl (Or.inl rfl))) (fun _ _ _ _ _ => pts_nil) (fun _ _ _ _ _ => (C8.pe_c c_law_right hr (by decide) (by rfl) (pa_cons (C8.pe_c c_law_dip hr (by decide) (by rfl) (pa_cons (pv 1) (pa_cons (pv 2) pa_nil))) pa_nil)))) pa_nil))))), ?_⟩
    refine ⟨_, rfl, a, 4, ns, rfl, hS, hlen, by decide, by decide, fun H0 cp ms s1 ncp hcp hml => ?_⟩
    refine ⟨_, rfl, cp, _, rfl, .inl (SqL.of hcp), _, _, rfl, _, rfl, ?_, ?_, fun D nD => ?_⟩
    · rw [List.length_map]
      split <;> omega
    · rw [List.length_map]
      split <;> omega
    have nDc : cp ≠ D := ne_of_none hcp nD
    rw [List.length_map]
    refine lc_range (lo := 0) (fun j H' => H' cp = some (.lst (ms.map V.int)) ∧ H' D = some (.lst ((List.replicate j true).map V.bl))) ⟨same_upd nD _ _ hcp, upd_same⟩ ?_ ?_
    · rintro j H' hj ⟨h1, h2⟩
      rw [Int.zero_add]
      have hj4 : j < 8 := by
        split at hj <;> omega
      refine ⟨rfl, yesT ?_⟩
      refine ⟨_, rfl, _, rfl, cp, j, ms, rfl, SqL.of h1, by omega, fun p b np hB => ?_⟩
      have npc : cp ≠ p := ne_of_none h1 np
      have npD : D ≠ p := ne_of_none h2 np
      refine ⟨p, b, rfl, upd_same, hB, fun H2 bt => ?_⟩
      have g1 := bt _ _ npc (same_upd np _ _ h1)
      have g2 := bt _ _ npD (same_upd np _ _ h2)
      refine ⟨_, g2, by rw [List.length_map, List.length_replicate]; exact small1000 (by omega), by rw [upd_ne nDc]; exact g1, ?_⟩
      rw [upd_same, List.replicate_succ', List.map_append]
      rfl
    · rintro H' ⟨h1, h2⟩
      refine ⟨D, _, rfl, SqL.of h2, ?_⟩
      rw [allTrue]
      exact q _
end
section
variable {w : World} {K : PySem.W.Frag} {h : Heap} {mg : Str → Option Value}
theorem fun_dd {x : Str} {st : Stmt} {ps : List Str} {f : Addr} {oc : Value} {od an : Option Addr} {osl : Array (Option Value)} {kV doc pm cdv ct : Value} (X : K.In h) (G : h.Ns mainGlobals mg) (a : PySem.W.nsIn K mainGlobals x = some (some (.ref f)))
    (l : K.lookup f = some ⟨oc, od, .func (PySem.W.fnOf x x (defArgs st) (defBody st) (defScope st) .none kV doc pm an cdv ct), osl⟩) (c : PySem.W.codeIn K cdv x = true) (k : PySem.W.keepIn K (.ref f) = true)
    (hb : ∀ (kV doc pm : Value) (an : Option Addr) (cdv ct : Value) (us : List Value), us.length = ps.length → bindArgs (PySem.W.fnOf x x (defArgs st) (defBody st) (defScope st) .none kV doc pm an cdv ct) ⟨us, []⟩ = pure (ps.zip us)) : Dd K mg x st ps :=
  ⟨f, _, fun_mk (st := st) l c k, PySem.W.mg_of X G a, (fun_mk (st := st) l c k).binds hb⟩
end
section
variable {w : World} {K : PySem.W.Frag} {h : Heap} {mg : Str → Option Value}
theorem fun_oxd {x qual : Str} {st : Stmt} {ps : List Str} {B newId : String} {C f N : Addr} {oc : Value} {od an : Option Addr} {osl : Array (Option Value)} {kV doc pm cdv ct : Value} {nm q : Str} {bs bm : List Value} {sn : List Str} {sub : List Value} {ab : Bool} {col : Option Bool} {dd : Option Addr} {k0 k1 k2 k3 k5 : Option Value}
    (X : K.In h) (G : h.Ns mainGlobals mg) (a : PySem.W.nsIn K mainGlobals x = some (some (.ref C))) (lC : K.lookup C = some (excClassObj nm q C N bs bm true sn sub ab col dd k0 k1 k2 k3 k5 newId)) (Nw : PySem.Oxb.NewOk newId bm) (FB : PySem.Oxb.InitOk B bm) (M : PySem.Oxb.MroOk (.ref C :: bm))
    (sa : PySem.W.findIn K (.ref C) "__setattr__" = some (some (.builtin "object.__setattr__"))) (exC : PySem.W.subIn K (.ref C) (.type "BaseException") = some true) (tyC : PySem.W.typeIn K (.ref C) = some (.type "type")) (kC : PySem.W.keepIn K (.ref C) = true)
    (iC : PySem.W.findIn K (.ref C) "__init__" = some (some (.ref f))) (tI : PySem.W.typeIn K (.ref f) = some (.type "function"))
    (l : K.lookup f = some ⟨oc, od, .func (PySem.W.fnOf "__init__" qual (defArgs st) (defBody st) (defScope st) .none kV doc pm an cdv ct), osl⟩) (c : PySem.W.codeIn K cdv qual = true) (k : PySem.W.keepIn K (.ref f) = true)
    (hb : ∀ (kV doc pm : Value) (an : Option Addr) (cdv ct : Value) (us : List Value), us.length = ps.length → bindArgs (PySem.W.fnOf "__init__" qual (defArgs st) (defBody st) (defScope st) .none kV doc pm an cdv ct) ⟨us, []⟩ = pure (ps.zip us)) : OxD K mg C B x qual st ps where
  ex := ⟨f, _, fun_mk (st := st) l c k, (fun_mk (st := st) l c k).binds hb, iC, tI⟩
  ox := ⟨⟨nm, q, N, bs, bm, sn, sub, ab, col, dd, k0, k1, k2, k3, k5, newId, lC, Nw, FB, M⟩, sa, exC, tyC, kC⟩
  mg := PySem.W.mg_of X G a
theorem cls_some {D : Addr} (hd : PySem.W.hasDictIn K D = true) : (PySem.W.clsIn K D).isSome = true := by
  obtain ⟨cd, e1, _⟩ := PySem.W.any_some hd
  rw [e1]
  rfl
theorem kit_cls {t : Value} {D : Addr} {b : Bool} (hd : PySem.W.hasDictIn K D = true) (ht : PySem.W.typeIn K (.ref D) = some (.type "type")) (hs : PySem.W.subIn K t (.ref D) = some b) : PySem.W.kitCls K t (.ref D) = some b := by
  show (if ((PySem.W.clsIn K D).isSome && PySem.W.typeIn K (.ref D) == some (.type "type")) = true then PySem.W.subIn K t (.ref D) else none) = some b
  rw [cls_some hd, ht, hs]
  rfl
theorem kit_other {C D : Addr} {b : Bool} (n : (Value.ref C == Value.ref D) = false) (hd : PySem.W.hasDictIn K D = true) (ht : PySem.W.typeIn K (.ref D) = some (.type "type")) (hs : PySem.W.subIn K (.ref C) (.ref D) = some b) : PySem.W.kitOne K (.ref C) (.ref D) = some b := by
  unfold PySem.W.kitOne
  rw [n]
  exact kit_cls hd ht hs
theorem kit_base {C : Addr} {T : String} {b : Bool} (m : PySem.W.kitMeta T = true) (hs : PySem.W.subIn K (.ref C) (.type T) = some b) : PySem.W.kitOne K (.ref C) (.type T) = some b := by
  have n : (Value.ref C == Value.type T) = false := rfl
  unfold PySem.W.kitOne
  rw [n]
  show (if PySem.W.kitMeta T = true then PySem.W.subIn K (.ref C) (.type T) else none) = some b
  rw [if_pos m, hs]
theorem exm_own {t : Value} {D : Addr} {b : Bool} (hB : PySem.W.subIn K (.ref D) (.type "BaseException") = some true) (hd : PySem.W.hasDictIn K D = true) (ht : PySem.W.typeIn K (.ref D) = some (.type "type")) (hs : PySem.W.subIn K t (.ref D) = some b) : PySem.W.exmOne K t (.ref D) = some b := by
  unfold PySem.W.exmOne
  rw [hB]
  exact kit_cls hd ht hs
end
/-! ### from what the top has written: the class Grammar and its words -/
structure GIn (K : PySem.W.Frag) (mg : Str → Option Value) (C : Addr) : Prop where
  ex : ∃ (f : Addr) (fd : FuncData), FunD K "__init__" "Grammar.__init__" (defArgs s_GI) (defBody s_GI) (defScope s_GI) [] [("cap", .int 0)] f fd ∧ Mk K C f
  mg : mg "Grammar" = some (.ref C)
structure GMt (K : PySem.W.Frag) (C : Addr) (m qual : Str) (st : Stmt) (ps : List Str) : Prop where
  ex : ∃ (f : Addr) (fd : FuncData), L2.Fun K m qual st f fd ∧ Meth K C m f ∧ Binds K fd ps []
section
variable {w : World} {K : PySem.W.Frag} {h : Heap} {mg : Str → Option Value}
theorem fun_ddk {x kn : Str} {kv : V} {ku : Value} {st : Stmt} {f kd : Addr} {oc : Value} {od an : Option Addr} {osl : Array (Option Value)} {doc pm cdv ct : Value} (X : K.In h) (G : h.Ns mainGlobals mg) (a : PySem.W.nsIn K mainGlobals x = some (some (.ref f)))
    (l : K.lookup f = some ⟨oc, od, .func (PySem.W.fnOf x x (defArgs st) (defBody st) (defScope st) .none (.ref kd) doc pm an cdv ct), osl⟩) (c : PySem.W.codeIn K cdv x = true) (k : PySem.W.keepIn K (.ref f) = true)
    (d : PySem.W.nsIn K kd kn = some (some ku)) (r : RelV kv ku) : DdK K mg x st [(kn, kv)] :=
  ⟨f, _, ⟨⟨_, _, _, _, _, _, _, _, _, _, rfl, l, c, .inl ⟨rfl, rfl⟩, .inr ⟨kd, rfl, fun q hq => by
    rw [List.mem_singleton.mp hq]
    exact ⟨_, d, r⟩⟩⟩, k⟩, PySem.W.mg_of X G a⟩
def AllOp : List DictEntry → Prop
  | [] => True
  | e :: r => (∃ (o : Op) (t : Tok), e.key = .str o.w t) ∧ AllOp r
theorem parts_at {PD : Addr} {es : Array DictEntry} {n : Nat} (l : K.lookup PD = some ⟨.type "dict", none, .dict es n, #[]⟩) (kl : PySem.W.KeysLit w.params es.toList) (lo : (PD == sysModules) = false)
    (ns : ∀ o : Op, ∃ t, PySem.W.nsIn K PD o.w = some (some (.int (o.n : Nat) t))) : PartsAt K w PD where
  kd := ⟨es, n, l, kl, lo⟩
  ops := fun o => by
    obtain ⟨t, e⟩ := ns o
    exact ⟨⟨es, n, _, l, kl, e, ⟨_, rfl⟩⟩, _, e⟩
theorem ops_of {PD : Addr} {t1 t2 t3 t4 t5 t6 t7 t8 t9 t10 t11 : Tok} (h1 : PySem.W.nsIn K PD "copy" = some (some (.int 1 t1))) (h2 : PySem.W.nsIn K PD "plus" = some (some (.int 2 t2))) (h3 : PySem.W.nsIn K PD "less" = some (some (.int 2 t3))) (h4 : PySem.W.nsIn K PD "times" = some (some (.int 2 t4))) (h5 : PySem.W.nsIn K PD "over" = some (some (.int 2 t5))) (h6 : PySem.W.nsIn K PD "rest" = some (some (.int 2 t6))) (h7 : PySem.W.nsIn K PD "least" = some (some (.int 2 t7))) (h8 : PySem.W.nsIn K PD "most" = some (some (.int 2 t8))) (h9 : PySem.W.nsIn K PD "same" = some (some (.int 2 t9))) (h10 : PySem.W.nsIn K PD "under" = some (some (.int 2 t10))) (h11 : PySem.W.nsIn K PD "pick" = some (some (.int 3 t11))) : ∀ o : Op, ∃ t, PySem.W.nsIn K PD o.w = some (some (.int (o.n : Nat) t)) := fun o => by
  cases o with
  | copy => exact ⟨_, h1⟩
  | plus => exact ⟨_, h2⟩
  | less => exact ⟨_, h3⟩
  | times => exact ⟨_, h4⟩
  | over => exact ⟨_, h5⟩
  | rest => exact ⟨_, h6⟩
  | least => exact ⟨_, h7⟩
  | most => exact ⟨_, h8⟩
  | same => exact ⟨_, h9⟩
  | under => exact ⟨_, h10⟩
  | pick => exact ⟨_, h11⟩
theorem gcls_of {C : Addr} (c1 : PySem.W.plainGet K C Str.empty = true) (c2 : PySem.W.hasDictIn K C = true) (c3 : PySem.W.plainOver K C = true) (c4 : PySem.W.findIn K (.ref C) "__setattr__" = some (some (.builtin "object.__setattr__"))) (n1 : PySem.W.findIn K (.ref C) "top" = some none) (n2 : PySem.W.findIn K (.ref C) "sort_table" = some none) (n3 : PySem.W.findIn K (.ref C) "making_table" = some none) (n4 : PySem.W.findIn K (.ref C) "rule_table" = some none) (n5 : PySem.W.findIn K (.ref C) "kept_table" = some none) (n6 : PySem.W.findIn K (.ref C) "risen" = some none) : GCls K C := ⟨⟨c1, c2, c3, c4⟩, n1, n2, n3, n4, n5, n6⟩
theorem fun_gi {C f kd : Addr} {oc : Value} {od an : Option Addr} {osl : Array (Option Value)} {doc pm cdv ct : Value} {t : Tok} (X : K.In h) (G : h.Ns mainGlobals mg) (a : PySem.W.nsIn K mainGlobals "Grammar" = some (some (.ref C)))
    (m1 : PySem.W.makesIn K C = true) (m2 : PySem.W.findIn K (.ref C) "__init__" = some (some (.ref f))) (m3 : PySem.W.isFn K (.ref f) = true) (m4 : PySem.W.keepIn K (.ref C) = true)
    (l : K.lookup f = some ⟨oc, od, .func (PySem.W.fnOf "__init__" "Grammar.__init__" (defArgs s_GI) (defBody s_GI) (defScope s_GI) .none (.ref kd) doc pm an cdv ct), osl⟩) (c : PySem.W.codeIn K cdv "Grammar.__init__" = true) (k : PySem.W.keepIn K (.ref f) = true)
    (d : PySem.W.nsIn K kd "cap" = some (some (.int 0 t))) : GIn K mg C where
  ex := ⟨f, _, ⟨⟨_, _, _, _, _, _, _, _, _, _, rfl, l, c, .inl ⟨rfl, rfl⟩, .inr ⟨kd, rfl, fun q hq => by
    rw [List.mem_singleton.mp hq]
    exact ⟨_, d, ⟨_, rfl⟩⟩⟩⟩, k⟩, ⟨m1, m2, m3, m4⟩⟩
  mg := PySem.W.mg_of X G a
theorem fun_gm {C f : Addr} {m qual : Str} {st : Stmt} {ps : List Str} {oc : Value} {od an : Option Addr} {osl : Array (Option Value)} {kV doc pm cdv ct : Value} (m1 : PySem.W.findIn K (.ref C) m = some (some (.ref f))) (m2 : PySem.W.isFn K (.ref f) = true) (k : PySem.W.keepIn K (.ref f) = true)
    (l : K.lookup f = some ⟨oc, od, .func (PySem.W.fnOf m qual (defArgs st) (defBody st) (defScope st) .none kV doc pm an cdv ct), osl⟩) (c : PySem.W.codeIn K cdv qual = true)
    (hb : ∀ (kV doc pm : Value) (an : Option Addr) (cdv ct : Value) (us : List Value), us.length = ps.length → bindArgs (PySem.W.fnOf m qual (defArgs st) (defBody st) (defScope st) .none kV doc pm an cdv ct) ⟨us, []⟩ = pure (ps.zip us)) : GMt K C m qual st ps :=
  ⟨f, _, fun_mk (st := st) l c k, ⟨m1, m2, k⟩, (fun_mk (st := st) l c k).binds hb⟩
end
theorem is_tree0_of {P : Program} {w : World} {K : PySem.W.Frag} {mg : Str → Option Value} {base : Heap} {k : Nat} {sp : Sp} {f : Addr} {fd : FuncData} (F : FunD K "is_tree" "is_tree" (defArgs s_is_tree) (defBody s_is_tree) (defScope s_is_tree) [] [("sort", .non)] f fd) (g : mg "is_tree" = some (.ref f)) (ok : FnOk P w K mg base CX0 k f fd P_is_tree sp) :
    C8.Cal P w K mg base k "is_tree" sp [.non] ∧ KCal P w K mg base k "is_tree" sp 2 ["sort"] (fun vs zs => vs ++ zs) := by
  obtain ⟨ds, hv, hb⟩ := FunD.binds0 (ps := P_is_tree) F 2 (by simp) rfl (fun D doc pm an cdv ct us ks hl hk => match us, ks, hl, hk with
    | [_, _], [_], _, _ => ⟨_, _, _, _, _, _, rfl, rfl, rfl⟩)
  have hk1 := kbindsN (ps := P_is_tree) F 2 ["sort"] (fun us ws => us ++ ws) (fun h2 h3 => Vals.append h2 h3) (fun kV doc pm an cdv ct us ws hl hw => match us, ws, hl, hw with
    | [_, _], [_], _, _ => rfl)
  exact ⟨⟨f, fd, _, ds, ok, g, F.kp, hb, hv⟩, ⟨f, fd, _, _, ok, g, F.kp, hk1⟩⟩
theorem all_mk {l : PySem.W.OpenLaw} {w : World} {K : PySem.W.Frag} {h : Heap} {mg : Str → Option Value} {fa C0 f4 : Addr} (X : K.In h) (G : h.Ns mainGlobals mg) (hfa : mg "law" = some (.ref fa))
    (N0 : OxD K mg C0 "KeyError" "NoName" "NoName.__init__" s_NoName N_NoName) (bV0 : PySem.W.findCls K (.type "KeyError") (.type "type") "__init__" = some (.val (.builtin "KeyError.__init__"))) (e3_0 : PySem.W.findIn K (.ref C0) "name" = some none)
    {t0 t1 t2 t3 t4 t5 t6 : Tok} (a10 : PySem.W.nsIn K mainGlobals "BOUND" = some (some (.int 1000000 t0))) (a11 : PySem.W.nsIn K mainGlobals "SIGNS" = some (some (.int 6 t1))) (a12 : PySem.W.nsIn K mainGlobals "LETTERS" = some (some (.str LETS t2))) (a13 : PySem.W.nsIn K mainGlobals "CAP" = some (some (.int 9 t3))) (a14 : PySem.W.nsIn K mainGlobals "SORTS" = some (some (.int 4 t4))) (a15 : PySem.W.nsIn K mainGlobals "MAKINGS" = some (some (.int 8 t5))) (a16 : PySem.W.nsIn K mainGlobals "EACH" = some (some (.int 2 t6)))
    {PD LA GC : Addr} (aP : PySem.W.nsIn K mainGlobals "PARTS" = some (some (.ref PD))) (PA : PartsAt K w PD)
    (aLT : PySem.W.nsIn K mainGlobals "LET" = some (some (.ref LA))) {dL : Option Addr} {itL : Array Value} {nL : Nat} {slL : Array (Option Value)} (lLT : K.lookup LA = some ⟨.type "tuple", dL, .seq itL nL, slL⟩) (vL : Vals [.str "copy", .str "plus", .str "least", .str "most"] itL.toList)
    (DKo : DdK K mg "op_let" s_op_let [("cap", .int 0)]) (GC1 : GCls K GC) (GI1 : GIn K mg GC) (ex0 : PySem.W.exmOne K (.ref C0) (.ref C0) = some true)
    (DK0 : DdK K mg "is_tree" s_is_tree [("sort", .non)])
    (GM0 : GMt K GC "making_of" "Grammar.making_of" s_GM N_GM)
    (GM1 : GMt K GC "worths_of" "Grammar.worths_of" s_GW N_GW)
    (GM2 : GMt K GC "makings" "Grammar.makings" s_Gm ["self"])
    {Y1 Y2 Y3 Y4 : Addr} (xv0 : XvC K C0) (kn0 : PySem.W.kitAny K (.ref C0) [.ref Y1, .ref Y2, .ref Y3, .ref Y4] = some false) (ke0 : PySem.W.kitOne K (.ref C0) (.type "KeyError") = some true)
    (aY1 : PySem.W.nsIn K mainGlobals "BadGrammar" = some (some (.ref Y1)))
    (aY2 : PySem.W.nsIn K mainGlobals "NoNode" = some (some (.ref Y2)))
    (aY3 : PySem.W.nsIn K mainGlobals "NoOp" = some (some (.ref Y3)))
    (aY4 : PySem.W.nsIn K mainGlobals "NoRow" = some (some (.ref Y4)))
    (z0 : PySem.W.nsIn K mainGlobals "len" = some none) (z1 : PySem.W.nsIn K mainGlobals "abs" = some none) (z2 : PySem.W.nsIn K mainGlobals "int" = some none) (z3 : PySem.W.nsIn K mainGlobals "list" = some none) (z4 : PySem.W.nsIn K mainGlobals "enumerate" = some none) (z5 : PySem.W.nsIn K mainGlobals "range" = some none) (z6 : PySem.W.nsIn K mainGlobals "isinstance" = some none) (z7 : PySem.W.nsIn K mainGlobals "tuple" = some none) (z8 : PySem.W.nsIn K mainGlobals "dict" = some none) (z9 : PySem.W.nsIn K mainGlobals "bool" = some none) (z10 : PySem.W.nsIn K mainGlobals "str" = some none) (z11 : PySem.W.nsIn K mainGlobals "zip" = some none) (z12 : PySem.W.nsIn K mainGlobals "all" = some none) (z13 : PySem.W.nsIn K mainGlobals "sum" = some none) (z14 : PySem.W.nsIn K mainGlobals "min" = some none) (z15 : PySem.W.nsIn K mainGlobals "KeyError" = some none) (z16 : PySem.W.nsIn K mainGlobals "max" = some none) (z17 : PySem.W.nsIn K mainGlobals "set" = some none) (z18 : PySem.W.nsIn K mainGlobals "sorted" = some none)
    (D0 : Dd K mg "own_copy" s_own_copy P_own_copy) (D1 : Dd K mg "is_number" s_is_number P_is_number) (D2 : Dd K mg "is_worth" s_is_worth P_is_worth) (D3 : Dd K mg "is_name" s_is_name P_is_name) (D4 : Dd K mg "is_tuple_of" s_is_tuple_of P_is_tuple_of) (D5 : Dd K mg "found_by" s_found_by P_found_by) (D6 : Dd K mg "is_op" s_is_op P_is_op) (D7 : Dd K mg "parts_of" s_parts_of P_parts_of) (D8 : Dd K mg "rows_of" s_rows_of P_rows_of) (D9 : Dd K mg "cap_in" s_cap_in P_cap_in) (D10 : Dd K mg "are_names" s_are_names P_are_names) (D11 : Dd K mg "sort_stands" s_sort_stands P_sort_stands) (D12 : Dd K mg "sorts_in" s_sorts_in P_sorts_in) (D13 : Dd K mg "making_stands" s_making_stands P_making_stands) (D14 : Dd K mg "makings_in" s_makings_in P_makings_in) (D15 : Dd K mg "worths_at" s_worths_at P_worths_at) (D16 : Dd K mg "is_at" s_is_at P_is_at) (D17 : Dd K mg "is_kept" s_is_kept P_is_kept) (D18 : Dd K mg "is_target" s_is_target P_is_target) (D19 : Dd K mg "is_operand" s_is_operand P_is_operand) (D20 : Dd K mg "kept_by" s_kept_by P_kept_by) (D21 : Dd K mg "rule_is_so" s_rule_is_so P_rule_is_so) (D22 : Dd K mg "rules_in" s_rules_in P_rules_in) (D23 : Dd K mg "form_of" s_form_of P_form_of) (D24 : Dd K mg "least_trees" s_least_trees P_least_trees) (D25 : Dd K mg "least_tree" s_least_tree P_least_tree) (D26 : Dd K mg "_law_take" s__law_take P__law_take) (D27 : Dd K mg "_law_dip" s__law_dip P__law_dip) (D28 : Dd K mg "_law_folded" s__law_folded P__law_folded) (D29 : Dd K mg "_law_one_of" s__law_one_of P__law_one_of) (D30 : Dd K mg "_law_strewn" s__law_strewn P__law_strewn) (D31 : Dd K mg "_law_named" s__law_named P__law_named) (D32 : Dd K mg "_law_number" s__law_number P__law_number) (D33 : Dd K mg "_law_sort_rows" s__law_sort_rows P__law_sort_rows) (D34 : Dd K mg "_law_rules_for" s__law_rules_for P__law_rules_for) (D35 : Dd K mg "_law_drawn" s__law_drawn P__law_drawn) (D36 : Dd K mg "_law_any" s__law_any P__law_any) (D37 : Dd K mg "_law_same" s__law_same P__law_same) (D38 : Dd K mg "_law_leasts" s__law_leasts P__law_leasts) (D39 : Dd K mg "_law_refused" s__law_refused P__law_refused) (D40 : Dd K mg "_law_great" s__law_great P__law_great) (D41 : Dd K mg "_law_right" s__law_right P__law_right)
    {od4 an4 : Option Addr} {sl4 : Array (Option Value)} {oc4 kV4 dc4 pm4 cd4 ct4 : Value}
    (a4 : PySem.W.nsIn K mainGlobals "law" = some (some (.ref f4))) (l4 : K.lookup f4 = some ⟨oc4, od4, .func (PySem.W.fnOf "law" "law" (defArgs s_law) (defBody s_law) (defScope s_law) .none kV4 dc4 pm4 an4 cd4 ct4), sl4⟩) (c4 : PySem.W.codeIn K cd4 "law" = true) (k4 : PySem.W.keepIn K (.ref f4) = true) :
    ∃ fd : FuncData, (∀ (s : Shared) (v : Value), BindsTo s fd ⟨[v], []⟩ [("_law_script", v)]) ∧ ∀ base : Heap, K.In base → base.Ns mainGlobals mg → FnOk l.prog w K mg base CX0 65 fa fd ["_law_script"] (spLaw K) := by
  have e := hfa.symm.trans (PySem.W.mg_of X G a4)
  cases e
  have F4 := fun_mk (st := s_law) l4 c4 k4
  have m0 := PySem.W.mg_none_of X G z0
  have m1 := PySem.W.mg_none_of X G z1
  have m2 := PySem.W.mg_none_of X G z2
  have m3 := PySem.W.mg_none_of X G z3
  have m4 := PySem.W.mg_none_of X G z4
  have m5 := PySem.W.mg_none_of X G z5
  have m6 := PySem.W.mg_none_of X G z6
  have m7 := PySem.W.mg_none_of X G z7
  have m8 := PySem.W.mg_none_of X G z8
  have m9 := PySem.W.mg_none_of X G z9
  have m10 := PySem.W.mg_none_of X G z10
  have m11 := PySem.W.mg_none_of X G z11
  have m12 := PySem.W.mg_none_of X G z12
  have m13 := PySem.W.mg_none_of X G z13
  have m14 := PySem.W.mg_none_of X G z14
  have m15 := PySem.W.mg_none_of X G z15
  have m16 := PySem.W.mg_none_of X G z16
  have m17 := PySem.W.mg_none_of X G z17
  have m18 := PySem.W.mg_none_of X G z18
  have TB : Bt mg := ⟨m0, m1, m2, m3, m4, m5⟩
  have TO : Ot mg := ⟨m6, m3, m7⟩
  have TSo : So mg := ⟨m5, m7⟩
  have TRu : Ru mg := ⟨m5, m3, m0, m2, m7⟩
  have TDw : Dw mg := ⟨m5, m0, m8, m7, m4⟩
  have TS : Sa mg := ⟨m6, m3, m7, m9, m10, m2, m0, m11, m12, m5⟩
  have TI : Ti mg := ⟨m6, m2, m9, m10, m7, m0, m12, m11⟩
  have TLt : Lt17 mg := ⟨m12, m13, m7, m14⟩
  have TLl : Ll17 mg := ⟨m5, m2, m0, m14⟩
  have TRf : Rf17 mg := ⟨m6, m15⟩
  have TGt : Gt17 mg := ⟨m5⟩
  have TR : Ri17 mg := ⟨m5, m3, m12, m16, m0⟩
  have TGb : Gb mg := ⟨m6, m2, m9, m10, m7, m3, m0, m12, m17, m18, m4⟩
  have TN : Nu mg := ⟨m6, m2, m9, m7, m0⟩
  have bI0 : BInit K "KeyError" := ⟨by decide +kernel, rfl, by decide +kernel, bV0, rfl, by decide +kernel, by decide +kernel⟩
  refine ⟨PySem.W.fnOf "law" "law" (defArgs s_law) (defBody s_law) (defScope s_law) .none kV4 dc4 pm4 an4 cd4 ct4, fun s v => .of_eq rfl, fun base _ _ => ?_⟩
  have ct := ok_take (P := l.prog) (w := w) (base := base) D26
  have co := ok_one_of TB ct D29
  have cu := ok_number ct D32
  have cn := ok_named TB ct D31
  have cs := ok_strewn TB ct D30
  have cr := ok_sort_rows TSo ct cn cs D33
  have cf := ok_rules_for TRu ct cn cs co cu D34
  have cd := ok_drawn TDw ct cn (ok_strewnT TB ct D30) co cr cf D35
  have ca := ok_any ct cd D36
  
  have hL : ∀ H, SqT K H LA [.str "copy", .str "plus", .str "least", .str "most"] := fun H => .inr ⟨_, itL, nL, lLT, rfl, rfl, by
    have z : itL.toList.length = 4 := by first | exact vL.length | exact vL.length.symm
    have z2 : itL.size = 4 := by
      rw [← Array.length_toList]
      exact z
    rw [z2]
    decide, vL⟩
  have TG : Gg mg PD LA := ⟨⟨_, PySem.W.mg_of X G a10, ⟨_, rfl⟩⟩, ⟨_, PySem.W.mg_of X G a11, ⟨_, rfl⟩⟩, ⟨_, PySem.W.mg_of X G a12, ⟨_, rfl⟩⟩, ⟨_, PySem.W.mg_of X G a13, ⟨_, rfl⟩⟩, ⟨_, PySem.W.mg_of X G a14, ⟨_, rfl⟩⟩, ⟨_, PySem.W.mg_of X G a15, ⟨_, rfl⟩⟩, ⟨_, PySem.W.mg_of X G a16, ⟨_, rfl⟩⟩, PySem.W.mg_of X G aP, PySem.W.mg_of X G aLT⟩
  have gNu := ok_is_number (P := l.prog) (w := w) (base := base) TN D1
  have gWo := ok_is_worth TGb TG gNu D2
  have gNa := ok_is_nameT (P := l.prog) (w := w) (base := base) TGb TG D3
  have gTu := ok_is_tuple_of (P := l.prog) (w := w) (base := base) TGb D4
  have gOp := ok_is_op (P := l.prog) (w := w) (base := base) TGb TG PA D6
  have gPa := ok_parts_of TG PA gOp D7
  have gLe := ok_op_letT TG hL gOp DKo
  have gRo := ok_rows_of (P := l.prog) (w := w) (base := base) TGb D8
  have gCa := ok_cap_in TGb TG gNu D9
  have gAn := ok_are_names TGb TG gNa D10
  have gSs := ok_sort_stands TGb TG gNa gTu gAn D11
  have gSi := ok_sorts_in TGb gRo gSs D12
  have gMs := ok_making_stands TGb TG gNa gTu gAn D13
  have gMi := ok_makings_in TGb gRo gMs D14
  have gWa := ok_worths_at TGb gNu D15
  have gIa := ok_is_at gTu D16
  have gIk := ok_is_kept gTu gNa D17
  have gIt := ok_is_target gIa gIk gWa D18
  have gIo := ok_is_operand gIa gIk gWa gTu gWo D19
  have gKb := ok_kept_by (P := l.prog) (w := w) (base := base) TGb D20
  have gRs := ok_rule_is_so TGb gTu gNa gIt gOp gLe gPa gIo D21
  have gRi := ok_rules_in TGb TG gRo gRs gKb D22
  obtain ⟨fG, fdG, FG, MG⟩ := GI1.ex
  have okG := ok_GI TGb GC1 gCa gSi gMi gRi gKb FG
  have cw := ok_ownD (P := l.prog) (w := w) (base := base) TO D0 40
  have cfound := ok_found_by (sn := 40) TGb N0 (fun f fd F => ok_NoName cw F N0.ox bI0 m15 e3_0) D5
  
  obtain ⟨fM, fdM, FM, mM, bM⟩ := GM0.ex
  have cform := ok_form_of GC1 ⟨N0.mg, ex0⟩ ⟨fM, fdM, ok_making_of (sn := 40) GC1 cfound FM, mM, bM⟩ D23
  obtain ⟨fT, fdT, FT, gT⟩ := DK0.ex
  have okT := run_is_tree (sn := 40) TI gTu gWo cform FT gT 16
  obtain ⟨cT0, cT1⟩ := is_tree0_of FT gT okT
  obtain ⟨fW, fdW, FW, mW, bW⟩ := GM1.ex
  obtain ⟨fR, fdR, FR, mR, bR⟩ := GM2.ex
  have clt := ok_least_trees (P := l.prog) (w := w) (base := base) TLt ⟨fR, fdR, _, [], GC1.c, mR, ok_Gm GC1 FR, bR, .nil⟩ D24
  have cle := ok_least_tree (sn := 40) GC1 (ok_worths_of (sn := 40) GC1 cfound FW) mW bW clt D25
  have cre := ok_refused (sn := 40) TRf ⟨N0.mg, PySem.W.mg_of X G aY1, PySem.W.mg_of X G aY2, PySem.W.mg_of X G aY3, PySem.W.mg_of X G aY4, ex0, xv0, e3_0, kn0, ke0⟩ cle D39
  have cll := ok_leasts (P := l.prog) (w := w) (base := base) TLl D38
  have cgr := ok_great (P := l.prog) (w := w) (base := base) TGt cn cs D40
  have csa := ok_same (P := l.prog) (w := w) (base := base) TS D37 40
  exact ok_law17 TR (ok_folded TB D28) (ok_dip TB D27) (ok_right17 TR (gmk0_of FG okG MG GI1.mg) ct ca cgr cll cle csa cT0 cT1 cre D41) F4
end Thr
open PySem PySem.W PyProof.Rows
set_option maxRecDepth 100000 in
set_option maxHeartbeats 0 in
theorem PySem.Challenge.cw_threereckons_k17_least_trees_holds : PySem.Challenge.rw_threereckons_k17_least_trees.Holds := by
  w_on; o_law; k_head; (case hw => w_witness2)
  k_fill
  refine L2.walk_of (l := PySem.Challenge.rw_threereckons_k17_least_trees) (n := 63) (k := 65) (x := "_law_script") (CX := fun _ => L2.CX0) (sp := fun w => Thr.spLaw _) rfl (by decide) rfl ⟨rfl, by decide, by decide⟩ (fun w h Y => PySem.W.kIn_of Y) ?F (fun _ _ a ns hl _ hS => ⟨a, ns, rfl, hS, hl, fun _ => rfl⟩) (fun _ _ _ _ _ h => h)
  case F =>
    intro w mg fa h KX G hmg
    refine' Thr.all_mk KX G hmg
      (Thr.fun_oxd (newId := "LookupError.__new__") (bm := [.type "KeyError", .type "LookupError", .type "Exception", .type "BaseException", .type "object"]) KX G ?o0_1 ?o0_2 Thr.new_KE Thr.init_KE ?oM0 ?o0_3 ?o0_4 ?o0_5 ?o0_6 ?o0_7 ?o0_8 ?o0_9 ?o0_10 ?o0_11 ?o0_12) ?bV0 ?e3_0
      ?kn0 ?kn1 ?kn2 ?kn3 ?kn4 ?kn5 ?kn6
      ?aP (Thr.parts_at ?lP ?kl ?lo (Thr.ops_of ?p1 ?p2 ?p3 ?p4 ?p5 ?p6 ?p7 ?p8 ?p9 ?p10 ?p11)) ?aLT ?lLT ?vL
      (Thr.fun_ddk KX G ?ko1 ?ko2 ?ko3 ?ko4 ?ko5 ?ko6) (Thr.gcls_of ?gc1 ?gc2 ?gc3 ?gc4 ?gn1 ?gn2 ?gn3 ?gn4 ?gn5 ?gn6) (Thr.fun_gi KX G ?gi1 ?gi2 ?gi3 ?gi4 ?gi5 ?gi6 ?gi7 ?gi8 ?gi9) (Thr.exm_own ?ex1 ?ex2 ?ex3 ?ex4)
      (Thr.fun_ddk KX G ?kq0_1 ?kq0_2 ?kq0_3 ?kq0_4 ?kq0_5 ?kq0_6)
      (Thr.fun_gm ?mm0_1 ?mm0_2 ?mm0_3 ?mm0_4 ?mm0_5 ?mm0_6)
      (Thr.fun_gm ?mm1_1 ?mm1_2 ?mm1_3 ?mm1_4 ?mm1_5 ?mm1_6)
      (Thr.fun_gm ?mm2_1 ?mm2_2 ?mm2_3 ?mm2_4 ?mm2_5 ?mm2_6)
      ⟨?vb1, ?vb2, ?vb3, ?vb4, ?vb5, ?vb6, ?vb7, ?vb8⟩ (L2.kitAny_cons (b := false) (Thr.kit_other ?qa1 ?qa2 ?qa3 ?qa4) (fun _ => (L2.kitAny_cons (b := false) (Thr.kit_other ?qb1 ?qb2 ?qb3 ?qb4) (fun _ => (L2.kitAny_cons (b := false) (Thr.kit_other ?qc1 ?qc2 ?qc3 ?qc4) (fun _ => (L2.kitAny_cons (b := false) (Thr.kit_other ?qd1 ?qd2 ?qd3 ?qd4) (fun _ => L2.kitAny_nil) (fun e => nomatch e))) (fun e => nomatch e))) (fun e => nomatch e))) (fun e => nomatch e)) (Thr.kit_base ?ke1 ?ke2) ?aY1 ?aY2 ?aY3 ?aY4
      ?z0 ?z1 ?z2 ?z3 ?z4 ?z5 ?z6 ?z7 ?z8 ?z9 ?z10 ?z11 ?z12 ?z13 ?z14 ?z15 ?z16 ?z17 ?z18
      (Thr.fun_dd KX G ?x0 ?w0 ?u0 ?t0 ?s0)
      (Thr.fun_dd KX G ?x1 ?w1 ?u1 ?t1 ?s1)
      (Thr.fun_dd KX G ?x2 ?w2 ?u2 ?t2 ?s2)
      (Thr.fun_dd KX G ?x3 ?w3 ?u3 ?t3 ?s3)
      (Thr.fun_dd KX G ?x4 ?w4 ?u4 ?t4 ?s4)
      (Thr.fun_dd KX G ?x5 ?w5 ?u5 ?t5 ?s5)
      (Thr.fun_dd KX G ?x6 ?w6 ?u6 ?t6 ?s6)
      (Thr.fun_dd KX G ?x7 ?w7 ?u7 ?t7 ?s7)
      (Thr.fun_dd KX G ?x8 ?w8 ?u8 ?t8 ?s8)
      (Thr.fun_dd KX G ?x9 ?w9 ?u9 ?t9 ?s9)
      (Thr.fun_dd KX G ?x10 ?w10 ?u10 ?t10 ?s10)
      (Thr.fun_dd KX G ?x11 ?w11 ?u11 ?t11 ?s11)
      (Thr.fun_dd KX G ?x12 ?w12 ?u12 ?t12 ?s12)
      (Thr.fun_dd KX G ?x13 ?w13 ?u13 ?t13 ?s13)
      (Thr.fun_dd KX G ?x14 ?w14 ?u14 ?t14 ?s14)
      (Thr.fun_dd KX G ?x15 ?w15 ?u15 ?t15 ?s15)
      (Thr.fun_dd KX G ?x16 ?w16 ?u16 ?t16 ?s16)
      (Thr.fun_dd KX G ?x17 ?w17 ?u17 ?t17 ?s17)
      (Thr.fun_dd KX G ?x18 ?w18 ?u18 ?t18 ?s18)
      (Thr.fun_dd KX G ?x19 ?w19 ?u19 ?t19 ?s19)
      (Thr.fun_dd KX G ?x20 ?w20 ?u20 ?t20 ?s20)
      (Thr.fun_dd KX G ?x21 ?w21 ?u21 ?t21 ?s21)
      (Thr.fun_dd KX G ?x22 ?w22 ?u22 ?t22 ?s22)
      (Thr.fun_dd KX G ?x23 ?w23 ?u23 ?t23 ?s23)
      (Thr.fun_dd KX G ?x24 ?w24 ?u24 ?t24 ?s24)
      (Thr.fun_dd KX G ?x25 ?w25 ?u25 ?t25 ?s25)
      (Thr.fun_dd KX G ?x26 ?w26 ?u26 ?t26 ?s26)
      (Thr.fun_dd KX G ?x27 ?w27 ?u27 ?t27 ?s27)
      (Thr.fun_dd KX G ?x28 ?w28 ?u28 ?t28 ?s28)
      (Thr.fun_dd KX G ?x29 ?w29 ?u29 ?t29 ?s29)
      (Thr.fun_dd KX G ?x30 ?w30 ?u30 ?t30 ?s30)
      (Thr.fun_dd KX G ?x31 ?w31 ?u31 ?t31 ?s31)
      (Thr.fun_dd KX G ?x32 ?w32 ?u32 ?t32 ?s32)
      (Thr.fun_dd KX G ?x33 ?w33 ?u33 ?t33 ?s33)
      (Thr.fun_dd KX G ?x34 ?w34 ?u34 ?t34 ?s34)
      (Thr.fun_dd KX G ?x35 ?w35 ?u35 ?t35 ?s35)
      (Thr.fun_dd KX G ?x36 ?w36 ?u36 ?t36 ?s36)
      (Thr.fun_dd KX G ?x37 ?w37 ?u37 ?t37 ?s37)
      (Thr.fun_dd KX G ?x38 ?w38 ?u38 ?t38 ?s38)
      (Thr.fun_dd KX G ?x39 ?w39 ?u39 ?t39 ?s39)
      (Thr.fun_dd KX G ?x40 ?w40 ?u40 ?t40 ?s40)
      (Thr.fun_dd KX G ?x41 ?w41 ?u41 ?t41 ?s41)
      ?a4 ?l4 ?c4 ?k4
    (case o0_1 => k_is)
    (case o0_2 => k_is)
    (case o0_3 => k_is)
    (case o0_4 => k_is)
    (case o0_5 => k_is)
    (case o0_6 => k_is)
    (case o0_7 => k_is)
    (case o0_8 => k_is)
    (case o0_9 => k_is)
    (case o0_10 => k_is)
    (case o0_11 => k_is)
    (case oM0 => exact Thr.mro_KE _)
    (case o0_12 => exact fun _ _ _ _ _ _ us hl => match us, hl with | [_, _], _ => rfl)
    (case bV0 => k_is)
    (case e3_0 => k_is)
    (case kn0 => k_is)
    (case kn1 => k_is)
    (case kn2 => k_is)
    (case kn3 => k_is)
    (case kn4 => k_is)
    (case kn5 => k_is)
    (case kn6 => k_is)
    (case aY1 => k_is)
    (case aY2 => k_is)
    (case aY3 => k_is)
    (case aY4 => k_is)
    (case aP => k_is)
    (case lP => k_is)
    (case kl => (repeat (first | exact trivial | refine ⟨⟨_, _, rfl, rfl⟩, ?_⟩)))
    (case lo => rfl)
    (case p1 => k_is)
    (case p2 => k_is)
    (case p3 => k_is)
    (case p4 => k_is)
    (case p5 => k_is)
    (case p6 => k_is)
    (case p7 => k_is)
    (case p8 => k_is)
    (case p9 => k_is)
    (case p10 => k_is)
    (case p11 => k_is)
    (case aLT => k_is)
    (case lLT => k_is)
    (case vL => exact .cons ⟨_, rfl⟩ (.cons ⟨_, rfl⟩ (.cons ⟨_, rfl⟩ (.cons ⟨_, rfl⟩ .nil))))
    (case ko1 => k_is)
    (case ko2 => k_is)
    (case ko3 => k_is)
    (case ko4 => k_is)
    (case ko5 => k_is)
    (case ko6 => exact ⟨_, rfl⟩)
    (case gi1 => k_is)
    (case gi2 => k_is)
    (case gi3 => k_is)
    (case gi4 => k_is)
    (case gi5 => k_is)
    (case gi6 => k_is)
    (case gi7 => k_is)
    (case gi8 => k_is)
    (case gi9 => k_is)
    (case gc1 => k_is)
    (case gc2 => k_is)
    (case gc3 => k_is)
    (case gc4 => k_is)
    (case gn1 => k_is)
    (case gn2 => k_is)
    (case gn3 => k_is)
    (case gn4 => k_is)
    (case gn5 => k_is)
    (case gn6 => k_is)
    (case ex1 => k_is)
    (case ex2 => k_is)
    (case ex3 => k_is)
    (case ex4 => k_is)
    (case kq0_1 => k_is)
    (case kq0_2 => k_is)
    (case kq0_3 => k_is)
    (case kq0_4 => k_is)
    (case kq0_5 => k_is)
    (case kq0_6 => exact rfl)
    (case mm0_1 => k_is)
    (case mm0_2 => k_is)
    (case mm0_3 => k_is)
    (case mm0_4 => k_is)
    (case mm0_5 => k_is)
    (case mm0_6 => exact fun _ _ _ _ _ _ us hl => match us, hl with | [_, _], _ => rfl)
    (case mm1_1 => k_is)
    (case mm1_2 => k_is)
    (case mm1_3 => k_is)
    (case mm1_4 => k_is)
    (case mm1_5 => k_is)
    (case mm1_6 => exact fun _ _ _ _ _ _ us hl => match us, hl with | [_, _], _ => rfl)
    (case mm2_1 => k_is)
    (case mm2_2 => k_is)
    (case mm2_3 => k_is)
    (case mm2_4 => k_is)
    (case mm2_5 => k_is)
    (case mm2_6 => exact fun _ _ _ _ _ _ us hl => match us, hl with | [_], _ => rfl)
    (case vb1 => k_is)
    (case vb2 => k_is)
    (case vb3 => k_is)
    (case vb4 => k_is)
    (case vb5 => k_is)
    (case vb6 => k_is)
    (case vb7 => k_is)
    (case vb8 => k_is)
    (case qa1 => rfl)
    (case qa2 => k_is)
    (case qa3 => k_is)
    (case qa4 => k_is)
    (case qb1 => rfl)
    (case qb2 => k_is)
    (case qb3 => k_is)
    (case qb4 => k_is)
    (case qc1 => rfl)
    (case qc2 => k_is)
    (case qc3 => k_is)
    (case qc4 => k_is)
    (case qd1 => rfl)
    (case qd2 => k_is)
    (case qd3 => k_is)
    (case qd4 => k_is)
    (case ke1 => decide +kernel)
    (case ke2 => k_is)
    (case z0 => k_is)
    (case z1 => k_is)
    (case z2 => k_is)
    (case z3 => k_is)
    (case z4 => k_is)
    (case z5 => k_is)
    (case z6 => k_is)
    (case z7 => k_is)
    (case z8 => k_is)
    (case z9 => k_is)
    (case z10 => k_is)
    (case z11 => k_is)
    (case z12 => k_is)
    (case z13 => k_is)
    (case z14 => k_is)
    (case z15 => k_is)
    (case z16 => k_is)
    (case z17 => k_is)
    (case z18 => k_is)
    (case x0 => k_is)
    (case w0 => k_is)
    (case u0 => k_is)
    (case t0 => k_is)
    (case s0 => exact fun _ _ _ _ _ _ us hl => match us, hl with | [_], _ => rfl)
    (case x1 => k_is)
    (case w1 => k_is)
    (case u1 => k_is)
    (case t1 => k_is)
    (case s1 => exact fun _ _ _ _ _ _ us hl => match us, hl with | [_], _ => rfl)
    (case x2 => k_is)
    (case w2 => k_is)
    (case u2 => k_is)
    (case t2 => k_is)
    (case s2 => exact fun _ _ _ _ _ _ us hl => match us, hl with | [_], _ => rfl)
    (case x3 => k_is)
    (case w3 => k_is)
    (case u3 => k_is)
    (case t3 => k_is)
    (case s3 => exact fun _ _ _ _ _ _ us hl => match us, hl with | [_], _ => rfl)
    (case x4 => k_is)
    (case w4 => k_is)
    (case u4 => k_is)
    (case t4 => k_is)
    (case s4 => exact fun _ _ _ _ _ _ us hl => match us, hl with | [_, _], _ => rfl)
    (case x5 => k_is)
    (case w5 => k_is)
    (case u5 => k_is)
    (case t5 => k_is)
    (case s5 => exact fun _ _ _ _ _ _ us hl => match us, hl with | [_, _], _ => rfl)
    (case x6 => k_is)
    (case w6 => k_is)
    (case u6 => k_is)
    (case t6 => k_is)
    (case s6 => exact fun _ _ _ _ _ _ us hl => match us, hl with | [_], _ => rfl)
    (case x7 => k_is)
    (case w7 => k_is)
    (case u7 => k_is)
    (case t7 => k_is)
    (case s7 => exact fun _ _ _ _ _ _ us hl => match us, hl with | [_], _ => rfl)
    (case x8 => k_is)
    (case w8 => k_is)
    (case u8 => k_is)
    (case t8 => k_is)
    (case s8 => exact fun _ _ _ _ _ _ us hl => match us, hl with | [_, _], _ => rfl)
    (case x9 => k_is)
    (case w9 => k_is)
    (case u9 => k_is)
    (case t9 => k_is)
    (case s9 => exact fun _ _ _ _ _ _ us hl => match us, hl with | [_], _ => rfl)
    (case x10 => k_is)
    (case w10 => k_is)
    (case u10 => k_is)
    (case t10 => k_is)
    (case s10 => exact fun _ _ _ _ _ _ us hl => match us, hl with | [_], _ => rfl)
    (case x11 => k_is)
    (case w11 => k_is)
    (case u11 => k_is)
    (case t11 => k_is)
    (case s11 => exact fun _ _ _ _ _ _ us hl => match us, hl with | [_, _], _ => rfl)
    (case x12 => k_is)
    (case w12 => k_is)
    (case u12 => k_is)
    (case t12 => k_is)
    (case s12 => exact fun _ _ _ _ _ _ us hl => match us, hl with | [_], _ => rfl)
    (case x13 => k_is)
    (case w13 => k_is)
    (case u13 => k_is)
    (case t13 => k_is)
    (case s13 => exact fun _ _ _ _ _ _ us hl => match us, hl with | [_, _, _], _ => rfl)
    (case x14 => k_is)
    (case w14 => k_is)
    (case u14 => k_is)
    (case t14 => k_is)
    (case s14 => exact fun _ _ _ _ _ _ us hl => match us, hl with | [_, _], _ => rfl)
    (case x15 => k_is)
    (case w15 => k_is)
    (case u15 => k_is)
    (case t15 => k_is)
    (case s15 => exact fun _ _ _ _ _ _ us hl => match us, hl with | [_, _, _], _ => rfl)
    (case x16 => k_is)
    (case w16 => k_is)
    (case u16 => k_is)
    (case t16 => k_is)
    (case s16 => exact fun _ _ _ _ _ _ us hl => match us, hl with | [_], _ => rfl)
    (case x17 => k_is)
    (case w17 => k_is)
    (case u17 => k_is)
    (case t17 => k_is)
    (case s17 => exact fun _ _ _ _ _ _ us hl => match us, hl with | [_, _, _], _ => rfl)
    (case x18 => k_is)
    (case w18 => k_is)
    (case u18 => k_is)
    (case t18 => k_is)
    (case s18 => exact fun _ _ _ _ _ _ us hl => match us, hl with | [_, _, _], _ => rfl)
    (case x19 => k_is)
    (case w19 => k_is)
    (case u19 => k_is)
    (case t19 => k_is)
    (case s19 => exact fun _ _ _ _ _ _ us hl => match us, hl with | [_, _, _], _ => rfl)
    (case x20 => k_is)
    (case w20 => k_is)
    (case u20 => k_is)
    (case t20 => k_is)
    (case s20 => exact fun _ _ _ _ _ _ us hl => match us, hl with | [_, _], _ => rfl)
    (case x21 => k_is)
    (case w21 => k_is)
    (case u21 => k_is)
    (case t21 => k_is)
    (case s21 => exact fun _ _ _ _ _ _ us hl => match us, hl with | [_, _, _, _], _ => rfl)
    (case x22 => k_is)
    (case w22 => k_is)
    (case u22 => k_is)
    (case t22 => k_is)
    (case s22 => exact fun _ _ _ _ _ _ us hl => match us, hl with | [_, _, _, _], _ => rfl)
    (case x23 => k_is)
    (case w23 => k_is)
    (case u23 => k_is)
    (case t23 => k_is)
    (case s23 => exact fun _ _ _ _ _ _ us hl => match us, hl with | [_, _], _ => rfl)
    (case x24 => k_is)
    (case w24 => k_is)
    (case u24 => k_is)
    (case t24 => k_is)
    (case s24 => exact fun _ _ _ _ _ _ us hl => match us, hl with | [_], _ => rfl)
    (case x25 => k_is)
    (case w25 => k_is)
    (case u25 => k_is)
    (case t25 => k_is)
    (case s25 => exact fun _ _ _ _ _ _ us hl => match us, hl with | [_, _], _ => rfl)
    (case x26 => k_is)
    (case w26 => k_is)
    (case u26 => k_is)
    (case t26 => k_is)
    (case s26 => exact fun _ _ _ _ _ _ us hl => match us, hl with | [_, _], _ => rfl)
    (case x27 => k_is)
    (case w27 => k_is)
    (case u27 => k_is)
    (case t27 => k_is)
    (case s27 => exact fun _ _ _ _ _ _ us hl => match us, hl with | [_, _], _ => rfl)
    (case x28 => k_is)
    (case w28 => k_is)
    (case u28 => k_is)
    (case t28 => k_is)
    (case s28 => exact fun _ _ _ _ _ _ us hl => match us, hl with | [_, _], _ => rfl)
    (case x29 => k_is)
    (case w29 => k_is)
    (case u29 => k_is)
    (case t29 => k_is)
    (case s29 => exact fun _ _ _ _ _ _ us hl => match us, hl with | [_, _], _ => rfl)
    (case x30 => k_is)
    (case w30 => k_is)
    (case u30 => k_is)
    (case t30 => k_is)
    (case s30 => exact fun _ _ _ _ _ _ us hl => match us, hl with | [_, _], _ => rfl)
    (case x31 => k_is)
    (case w31 => k_is)
    (case u31 => k_is)
    (case t31 => k_is)
    (case s31 => exact fun _ _ _ _ _ _ us hl => match us, hl with | [_, _], _ => rfl)
    (case x32 => k_is)
    (case w32 => k_is)
    (case u32 => k_is)
    (case t32 => k_is)
    (case s32 => exact fun _ _ _ _ _ _ us hl => match us, hl with | [_], _ => rfl)
    (case x33 => k_is)
    (case w33 => k_is)
    (case u33 => k_is)
    (case t33 => k_is)
    (case s33 => exact fun _ _ _ _ _ _ us hl => match us, hl with | [_, _], _ => rfl)
    (case x34 => k_is)
    (case w34 => k_is)
    (case u34 => k_is)
    (case t34 => k_is)
    (case s34 => exact fun _ _ _ _ _ _ us hl => match us, hl with | [_, _, _, _, _], _ => rfl)
    (case x35 => k_is)
    (case w35 => k_is)
    (case u35 => k_is)
    (case t35 => k_is)
    (case s35 => exact fun _ _ _ _ _ _ us hl => match us, hl with | [_, _, _], _ => rfl)
    (case x36 => k_is)
    (case w36 => k_is)
    (case u36 => k_is)
    (case t36 => k_is)
    (case s36 => exact fun _ _ _ _ _ _ us hl => match us, hl with | [_], _ => rfl)
    (case x37 => k_is)
    (case w37 => k_is)
    (case u37 => k_is)
    (case t37 => k_is)
    (case s37 => exact fun _ _ _ _ _ _ us hl => match us, hl with | [_, _], _ => rfl)
    (case x38 => k_is)
    (case w38 => k_is)
    (case u38 => k_is)
    (case t38 => k_is)
    (case s38 => exact fun _ _ _ _ _ _ us hl => match us, hl with | [_], _ => rfl)
    (case x39 => k_is)
    (case w39 => k_is)
    (case u39 => k_is)
    (case t39 => k_is)
    (case s39 => exact fun _ _ _ _ _ _ us hl => match us, hl with | [_, _], _ => rfl)
    (case x40 => k_is)
    (case w40 => k_is)
    (case u40 => k_is)
    (case t40 => k_is)
    (case s40 => exact fun _ _ _ _ _ _ us hl => match us, hl with | [_], _ => rfl)
    (case x41 => k_is)
    (case w41 => k_is)
    (case u41 => k_is)
    (case t41 => k_is)
    (case s41 => exact fun _ _ _ _ _ _ us hl => match us, hl with | [_], _ => rfl)
    (case a4 => k_is)
    (case l4 => k_is)
    (case c4 => k_is)
    (case k4 => k_is)
