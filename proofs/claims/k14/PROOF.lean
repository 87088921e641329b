import PyProof.Rows.All
import Wide.All
import OpenK.AllK
import Wide.FinOn
import HandS.ForMost
import HandS.Walk
import HandS.Codes
import HandS.IsInst
import HandS.Defaults
import HandS.Star
import HandS.Flow
import HandS.Style
import HandS.CallLocal
import HandS.More
import HandS.ForExc
import HandS.ExcInit
import HandS.ExcIs
import HandS.ExcField
import KE.KExcIs
import KE.KExcInit
import HandS.Zip
import HandS.DeepEq
import PyProof.Rows.NestShow
import HandS.TupAny
import HandS.RevRange
import HandS.Text
import PyProof.StrLawsRepr
import HandS.StrMore
import KE.IntTextText
import KE.KDictKeyed
import KE.GoesMore
import PyProof.EnumMake
import PyProof.Draws
import HandS.DictComp
import HandS.Conv
import HandS.Deep
import HandS.Dict
import HandS.FStr
import HandS.TryOnly
import HandS.DictTup
import HandS.TupLen
import HandS.SetFor
import HandS.Strs
import HandS.Set
import HandS.Spec
import PyProof.AutoSeq1
import HandS.Sort
import KE.LtData
import KE.DataEq
import HandS.MakeKwOnly
import HandS.TupMul
import HandS.List
import PySem.Challenge.RW_threereckons_k14_what_trees_are
set_option Elab.async false
set_option linter.all false
set_option maxRecDepth 100000
set_option maxHeartbeats 4000000
namespace Thr
open PySem PySem.Spec PyProof.Rows L2
/-! ### heaps -/
theorem same_upd {H : Hp} {p : Addr} {o : HO} (h : H p = none) : Same H (upd H p o) := fun b x e => by
  rw [upd_ne (ne_of_none e h)]
  exact e
/-- all but what stands at a -/
def But (a : Addr) (H H' : Hp) : Prop := ∀ b o, b ≠ a → H b = some o → H' b = some o
theorem But.refl (a : Addr) (H : Hp) : But a H H := fun _ _ _ h => h
theorem But.trans {a : Addr} {H H1 H2 : Hp} (x : But a H H1) (y : But a H1 H2) : But a H H2 := fun b o n h => y b o n (x b o n h)
theorem But.of {a : Addr} {H H' : Hp} (s : Same H H') : But a H H' := fun b o _ h => s b o h
theorem But.upd {a : Addr} {H H' : Hp} {o : HO} (x : But a H H') : But a H (upd H' a o) := fun b u n h => by
  rw [upd_ne n]
  exact x b u n h
theorem But.new {a p : Addr} {H H' : Hp} {o : HO} (x : But a H H') (h : H' p = none) : But a H (L2.upd H' p o) := fun b u n e => by
  have e' := x b u n e
  rw [upd_ne (ne_of_none e' h)]
  exact e'
theorem But.seq {K : PySem.W.Frag} {H H' : Hp} {a b : Addr} {xs : List V} (e : But a H H') (n : b ≠ a) (h : SqL K H b xs) : SqL K H' b xs := by
  rcases h with (h | ⟨o, h⟩) | h
  · exact .inl (.inl (e _ _ n h))
  · exact .inl (.inr ⟨o, e _ _ n h⟩)
  · exact .inr h
/-! ### a def of the top, under its name -/
structure Dd (K : PySem.W.Frag) (mg : Str → Option Value) (x : Str) (st : Stmt) (ps : List Str) : Prop where
  ex : ∃ (f : Addr) (fd : FuncData), L2.Fun K x x st f fd ∧ mg x = some (.ref f) ∧ Binds K fd ps []
section
variable {P : Program} {w : World} {K : PySem.W.Frag} {mg : Str → Option Value} {base : Heap}
theorem Dd.cal {x : Str} {st : Stmt} {N ps : List Str} {k : Nat} {sp : Sp} (D : Dd K mg x st ps) (S : FnScope N ps (defScope st)) (len : ∀ vs H Q E, sp vs H Q E → vs.length = ps.length)
    (hbody : ∀ (f : Addr) (cdv : Value) (A : Around) (outer : List Env) (s : Shared) (H : Hp) (vs : List V) (Q : VK) (E : XK), Room k (A.deeper (envOfC x (defScope st) s.heap.objs.size f cdv)) → sp vs H Q E →
      ∃ t, PSs (cxOf CX0 P w K mg base N x (defScope st) f cdv A outer s H E).nox (defBody st) t ∧ t { nx := fun _ H' => Q .non H', rt := Q } (start N vs) H) : C8.Cal P w K mg base (k + 1) x sp [] := by
  obtain ⟨f, fd, F, g, b⟩ := D.ex
  exact ⟨f, fd, ps, [], F.ok S len (fun cdv A outer s H vs Q E hr h => hbody f cdv A outer s H vs Q E hr h), g, F.kp, b, .nil⟩
end
/-! ### what is drawn from -/
def BoxL (n : Nat) (b : List V) : Prop := ∃ b0 b1 b2 : Int, b = [.int b0, .int b1, .int b2] ∧ 0 ≤ b0 ∧ 0 ≤ b1 ∧ b1 < 4611686018427387904 ∧ 0 ≤ b2 ∧ b2 ≤ n
def spTake : Sp := fun vs H Q _ => ∃ (a : Addr) (many : Int) (n : Nat) (b : List V), vs = [.ref a, .int many] ∧ H a = some (.lst b) ∧ BoxL n b ∧ n < 1000000 ∧ 0 < many ∧ many < 1073741824 ∧
  ∀ (r : Int) (b' : List V), 0 ≤ r → r < many → BoxL (n + 1) b' → Q (.int r) (upd H a (.lst b'))
def spDip (K : PySem.W.Frag) : Sp := fun vs H Q _ => ∃ (a : Addr) (k : Nat) (ns : List Int), vs = [.ref a, .int k] ∧ SqL K H a (ns.map V.int) ∧ k ≤ 63 ∧
  ∀ (p : Addr) (b : List V), H p = none → BoxL 0 b → Q (.ref p) (upd H p (.lst b))
def spFold (K : PySem.W.Frag) : Sp := fun vs H Q _ => ∃ (a : Addr) (size : Nat) (ns : List Int), vs = [.ref a, .int size] ∧ SqL K H a (ns.map V.int) ∧ ns.length ≤ 63 ∧ 1 ≤ size ∧ size ≤ 8 ∧
  ∀ (H' : Hp) (p : Addr) (ms : List Int), Same H H' → H p = none → H' p = some (.lst (ms.map V.int)) → ms.length ≤ size → Q (.ref p) H'
/-- the built-in names that the law uses stand as they were -/
structure Bt (mg : Str → Option Value) : Prop where
  len : mg "len" = none
  abs : mg "abs" = none
  int : mg "int" = none
  list : mg "list" = none
  enumerate : mg "enumerate" = none
  range : mg "range" = none
theorem cut_len (xs : List V) (lo hi : Option Int) : (cutV xs lo hi).length ≤ xs.length := by
  unfold cutV
  rw [List.length_take, List.length_drop]
  omega
theorem cut_ints (ns : List Int) (lo hi : Option Int) : ∃ ms : List Int, cutV (ns.map V.int) lo hi = ms.map V.int ∧ ms.length ≤ ns.length := by
  refine ⟨(ns.drop (HT.sIx (ns.map V.int).length 0 lo)).take (HT.sIx (ns.map V.int).length (ns.map V.int).length hi - HT.sIx (ns.map V.int).length 0 lo), ?_, ?_⟩
  · unfold cutV
    rw [List.map_take, List.map_drop]
  · rw [List.length_take, List.length_drop]
    omega
theorem cut_to (ns : List Int) (size : Nat) : cutV (ns.map V.int) none (some (size : Int)) = (ns.take size).map V.int := by
  unfold cutV
  rw [HT.sIx_none, show HT.sIx (ns.map V.int).length (ns.map V.int).length (some (size : Int)) = min size (ns.map V.int).length from HT.sIx_nat _ _ size, List.map_take, List.length_map]
  show ((ns.map V.int).drop 0).take (min size ns.length - 0) = _
  rw [List.drop_zero, Nat.sub_zero]
  by_cases h : size ≤ ns.length
  · rw [Nat.min_eq_left h]
  · rw [Nat.min_eq_right (by omega), List.take_of_length_le (by rw [List.length_map]; omega), List.take_of_length_le (by rw [List.length_map]; omega)]
theorem cut_from_nil (ns : List Int) (size : Nat) (h : ns.length ≤ size) (hi : Option Int) : cutV (ns.map V.int) (some (size : Int)) hi = [] := by
  unfold cutV
  rw [show HT.sIx (ns.map V.int).length 0 (some (size : Int)) = min size (ns.map V.int).length from HT.sIx_nat _ _ size, List.drop_eq_nil_of_le (by rw [List.length_map]; omega), List.take_nil]
section
variable {X : Cx} {k j n i : Nat} {x : Str} {sp : Sp} {p pos : Pos} {e : Expr} {es : List Expr} {kws : List Keyword} {t tk : TA} {te : TE} {ks : List Str} {gV : List V → List V → List V}
/-! ### what is never reached -/
theorem pe_never {e : Expr} : PE X e (fun _ _ _ => False) := ⟨fun _ _ _ _ _ _ h => h.elim⟩
theorem pt_never {e : Expr} : PT X e (fun _ _ _ => False) := ⟨fun _ _ _ _ _ _ h => h.elim⟩
/-! ### calls with keywords -/
structure KCal (P : Program) (w : World) (K : PySem.W.Frag) (mg : Str → Option Value) (base : Heap) (k : Nat) (x : Str) (sp : Sp) (n : Nat) (ks : List Str) (gV : List V → List V → List V) : Prop where
  ex : ∃ (f : Addr) (fd : FuncData) (ps : List Str) (g : List Value → List Value → List Value), FnOk P w K mg base CX0 k f fd ps sp ∧ mg x = some (.ref f) ∧ PySem.W.keepIn K (.ref f) = true ∧ KBn K fd ps n ks g gV
theorem pe_kw (c : KCal X.prog X.w X.K X.mg X.base k x sp n ks gV) (hr : Room j X.A) (hk : k ≤ j) (hg : Gl X x) (ha : PA X (e :: es) t) (hkw : PK X kws tk)
    (hall : (backToKw pos (keywordEach kws X.env)).all (·.1.isSome) = true := by rfl) (hks : (backToKw pos (keywordEach kws X.env)).filterMap (·.1) = ks := by rfl)
    (hdb : (x == ("__debug__" : Str)) = false := by decide) (he : starEach (e :: es) X.env = (false, eval e X.env) :: starEach es X.env := by rfl)
    (hpl : ((backTo pos (starEach (e :: es) X.env)).any (·.1) || (backToKw pos (keywordEach kws X.env)).any (·.1.isNone)) = false := by rfl) :
    PE X (.Call (.Name x p) (e :: es) kws pos) (tCallN n ks.length sp gV E0 t tk) := by
  obtain ⟨f, fd, ps, g, F, hm, kp, b⟩ := c.ex
  exact pe_callN F (hr.mono hk) hg hm kp b pass0 ha hkw hall hks hdb he hpl
theorem pe_kw0 (c : KCal X.prog X.w X.K X.mg X.base k x sp 0 ks gV) (hr : Room j X.A) (hk : k ≤ j) (hg : Gl X x) (hkw : PK X kws tk)
    (hall : (backToKw pos (keywordEach kws X.env)).all (·.1.isSome) = true := by rfl) (hks : (backToKw pos (keywordEach kws X.env)).filterMap (·.1) = ks := by rfl)
    (hdb : (x == ("__debug__" : Str)) = false := by decide)
    (hpl : ((backTo pos (starEach [] X.env)).any (·.1) || (backToKw pos (keywordEach kws X.env)).any (·.1.isNone)) = false := by rfl) :
    PE X (.Call (.Name x p) [] kws pos) (tCallN 0 ks.length sp gV E0 tNil tk) := by
  obtain ⟨f, fd, ps, g, F, hm, kp, b⟩ := c.ex
  refine ⟨fun pins s σ H Q I h => ?_⟩
  refine wpAny_Call_Name_kw (ld_glob I hg hm ?_ hdb)
  refine PySem.W.callWith_KW0 (h₀ := X.base) I.ok.mod.kin kp hall ?_ hpl
  refine thn (hkw.run pos pins s σ H _ I h) fun ws s2 ⟨zs, H2, I2, rz, l1, l2, q2⟩ => ⟨I2.kIn, ?_⟩
  rw [hks]
  exact run_fnN (us := []) (vs := []) F (hr.mono hk) b pass0 I2 .nil rz rfl l2 q2
/-! ### x(*y), x a local name that holds a def -/
def tCallHS (P : Program) (w : World) (K : PySem.W.Frag) (mg : Str → Option Value) (base : Heap) (k i : Nat) (te : TE) : TE := fun σ H Q => ∃ f sp, σ[i]? = some (some (.ref f)) ∧ Held P w K mg base k f sp ∧
  te σ H fun y H1 => ∃ a xs, y = V.ref a ∧ (SqT K H1 a xs ∨ SqL K H1 a xs) ∧ sp xs H1 Q (fun _ _ _ => False)
theorem pe_callHS {sp_ : Pos} (hr : Room k X.A) (hN : X.N[i]? = some x) (hv : Vis X.env.scope x) (he : PE X e te)
    (hdb : (x == ("__debug__" : Str)) = false := by decide) (hcd : (x == ("__classdict__" : Str)) = false := by decide)
    (hst : starEach [.Starred e sp_] X.env = [(true, eval e X.env)] := by rfl) :
    PE X (.Call (.Name x p) [.Starred e sp_] [] pos) (tCallHS X.prog X.w X.K X.mg X.base k i te) := by
  refine ⟨fun pins s σ H Q I h => ?_⟩
  obtain ⟨f, sp, hs, hH, ht⟩ := h
  obtain ⟨fd, ps, F, hk, hb⟩ := hH.ex
  refine wpAny_Call_Name_kw (thn ((pe_var (pos := p) hN hv hdb hcd).run pins s σ H (fun v H1 => v = .ref f ∧ H1 = H) I ⟨.ref f, hs, rfl, rfl⟩) fun u s1 ⟨v, H1, I1, r1, q1⟩ => ?_)
  obtain ⟨rfl, rfl⟩ := q1
  cases r1
  refine PySem.W.callWith_S (h₀ := X.base) I.ok.mod.kin hk (thn (he.run pins s1 σ _ _ I1 ht) fun v s2 ⟨y, H2, I2, ry, a, xs, ey, hxs, q⟩ => ?_) hst
  subst ey
  obtain rfl : v = Value.ref a := ry
  refine StX.star_any I2 hxs fun us s3 I3 rv => ⟨I3.kIn, ?_⟩
  exact run_fn (E := fun _ _ _ => False) F hr hb .nil (fun _ _ _ _ _ _ _ z => z.elim) I3 rv (by rw [List.append_nil]; exact q)
end
section
variable {K : PySem.W.Frag} {x qual : Str} {params : Arguments} {body : List Stmt} {scope : Scope} {kws : List (Str × V)} {f : Addr} {fd : FuncData} {ps : List Str}
/-- keywords, and keyword-only defaults for those that lack; no other defaults -/
theorem kbinds0 (F : FunD K x qual params body scope [] kws f fd) (n : Nat) (ks : List Str) (g : {α : Type} → List α → List α → List α → List α) (hk : kws ≠ [])
    (hrel : ∀ {vs mz zs : List V} {us mv ws : List Value}, Vals vs us → Vals mz mv → Vals zs ws → Vals (g vs mz zs) (g us mv ws))
    (h : ∀ (D : Addr) (doc pm : Value) (an : Option Addr) (cdv ct : Value) (us mv ws : List Value), us.length = n → mv.length = kws.length → ws.length = ks.length →
      KwChain D ((kws.map (·.1)).zip mv) (bindArgs (PySem.W.fnOf x qual params body scope .none (.ref D) doc pm an cdv ct) ⟨us, ks.zip ws⟩) (ps.zip (g us mv ws))) :
    ∃ mv : List Value, KBn K fd ps n ks (fun us ws => g us mv ws) (fun vs zs => g vs (kws.map (·.2)) zs) := by
  obtain ⟨oc, od, dV, kV, doc, pm, an, cdv, ct, osl, rfl, lk, hcd, hD, hK⟩ := F.ex
  rcases hD with ⟨_, rfl⟩ | ⟨e, _⟩
  · rcases hK with e | ⟨D, rfl, hq⟩
    · exact absurd e hk
    · obtain ⟨mv, hl, rk, hks⟩ := kwd_vals hq
      refine ⟨mv, ⟨fun s us ws X l1 l2 => ?_, fun r1 r2 => hrel r1 rk r2⟩⟩
      exact BindsTo.of_looks fun M => KwChain.looks X hks (h D doc pm an cdv ct us mv ws l1 hl l2)
  · exact absurd rfl e
/-- keywords alone, every parameter named or placed -/
theorem kbindsN (F : FunD K x qual params body scope [] kws f fd) (n : Nat) (ks : List Str) (g : {α : Type} → List α → List α → List α)
    (hrel : ∀ {vs zs : List V} {us ws : List Value}, Vals vs us → Vals zs ws → Vals (g vs zs) (g us ws))
    (h : ∀ (kV doc pm : Value) (an : Option Addr) (cdv ct : Value) (us ws : List Value), us.length = n → ws.length = ks.length →
      bindArgs (PySem.W.fnOf x qual params body scope .none kV doc pm an cdv ct) ⟨us, ks.zip ws⟩ = pure (ps.zip (g us ws))) :
    KBn K fd ps n ks (fun us ws => g us ws) (fun vs zs => g vs zs) := by
  obtain ⟨oc, od, dV, kV, doc, pm, an, cdv, ct, osl, rfl, lk, hcd, hD, hK⟩ := F.ex
  rcases hD with ⟨_, rfl⟩ | ⟨e, _⟩
  · exact ⟨fun s us ws X l1 l2 => .of_eq (h kV doc pm an cdv ct us ws l1 l2), fun r1 r2 => hrel r1 r2⟩
  · exact absurd rfl e
end
/-! ### d.update(e) -/
def rDUpd : V → List V → Hp → VK → Prop := fun x vs H Q => ∃ (a b : Addr) (kvs more : List (Key × V)), x = .ref a ∧ vs = [.ref b] ∧ a ≠ b ∧ H a = some (.dK kvs) ∧ H b = some (.dK more) ∧ kvs.length + more.length ≤ 1000 ∧ Q .non (upd H a (.dK (mergeK kvs more)))
theorem mtd_update {X : Cx} : MtR X "dict.update" rDUpd := by
  intro pins s σ H x vs v us Q I rx rv h
  obtain ⟨a, b, kvs, more, ex, ev, nab, ea, eb, hz, q⟩ := h
  subst ex
  subst ev
  obtain rfl : v = Value.ref a := rx
  obtain ⟨u, eu, ru⟩ := rv.one
  subst eu
  obtain rfl : u = Value.ref b := ru
  obtain ⟨z1, ls1, vs1, r1, d1⟩ := I.hok a _ ea
  obtain ⟨z2, ls2, vs2, r2, d2⟩ := I.hok b _ eb
  have l1 : kvs.length = vs1.length := Paired.length r1
  have l2 : more.length = vs2.length := Paired.length r2
  refine call_meetsIn PySem.F.slot_dict_update d1.typeIs PySem.F.entry_dict_update (PySem.F.args_dict_update_2 _ _) (meets_dict_update (mixKind X.prog X.w) a b nab ls2)
    ⟨vs1, vs2, d1, d2, (by rw [← l1, ← l2]; exact Nat.le_trans hz (by decide)), fun h' hm _ hs => ?_⟩
  refine ⟨.non, upd H a (.dK (mergeK kvs more)), ?_, rfl, q⟩
  have hlen : (mergeK kvs more).length ≤ sizeLine := by
    have := length_mergeK more kvs
    have h2 : (1000 : Nat) ≤ sizeLine := by decide
    omega
  obtain ⟨oo, es', ep', ho', _⟩ := id hm
  exact I.write (t' := s.toks) (e := a) (o := .dK (mergeK kvs more)) (by rw [ea]; trivial) (.inl rfl) (fun c u nc e => (hs.2 c nc).trans e) ⟨oo, ho'⟩ ⟨hlen, ls1, merged vs1 vs2, KV.merge r2 r1, hm⟩
/-! ### an exception that is held as a value: its class, its own dict -/
def exv (a C d : Addr) : HO := .ext fun g => ∃ ob fv, g.get? a = some ob ∧ ob.cls = .ref C ∧ ob.dict = some d ∧ ob.data = .fields fv
theorem exv_ok {P : Program} {w : World} {H : Hp} {g : Heap} {a C d : Addr} {ob : Obj} {fv : Array Value} (h1 : g.get? a = some ob) (h2 : ob.cls = .ref C) (h3 : ob.dict = some d) (h4 : ob.data = .fields fv) : ObjOk P w H g a (exv a C d) :=
  ⟨⟨ob, fv, h1, h2, h3, h4⟩, ⟨ob, h1⟩, fun g1 g2 ⟨o2, f2, e1, e2, e3, e4⟩ k => ⟨o2, f2, k _ e1, e2, e3, e4⟩⟩
theorem exv_at {P : Program} {w : World} {H : Hp} {g : Heap} {a C d : Addr} (ok : HOk P w H g) (e : H a = some (exv a C d)) : ∃ ob fv, g.get? a = some ob ∧ ob.cls = .ref C ∧ ob.dict = some d ∧ ob.data = .fields fv := by
  have z : ObjOk P w H g a (.ext fun g => ∃ ob fv, g.get? a = some ob ∧ ob.cls = .ref C ∧ ob.dict = some d ∧ ob.data = .fields fv) := ok a _ e
  exact z.1
section
variable {X : Cx} {pins : List (Addr × Obj)} {σ : L2.St} {H : Hp} {s : Shared}
/-- an object that was made here and is not yet tracked is tracked from now on -/
theorem inv_track {a : Addr} {u : HO} (I : Inv X pins σ H s) (na : H a = none) (nw : ∀ o, X.s_0.heap.get? a ≠ some o) (nL : a ≠ X.env.locals) (nC : ∀ x c, X.env.cells.lookup x = some c → c ≠ a) (nP : ∀ p ∈ X.pn ++ pins, p.1 ≠ a)
    (new : ObjOk X.prog X.w (upd H a u) s.heap a u) : Inv X pins σ (upd H a u) s where
  ok := I.ok
  os := I.os
  bare := I.bare
  base := {
    keep := I.base.keep
    slot := I.base.slot
    free := fun b o e n hx => by
      have nb : b ≠ a := fun z => nw o (z ▸ e)
      rw [upd_ne nb]
      exact I.base.free b o e n hx
    there := I.base.there
    tups := fun b xs e => by
      have e' := I.base.tups b xs e
      rw [upd_ne (ne_of_none e' na)]
      exact e'
    frzs := fun b o xs e => by
      have e' := I.base.frzs b o xs e
      rw [upd_ne (ne_of_none e' na)]
      exact e'
    tbls := fun b ps e => by
      obtain ⟨m, e'⟩ := I.base.tbls b ps e
      exact ⟨m, by rw [upd_ne (ne_of_none e' na)]; exact e'⟩ }
  loc := I.loc
  cell := I.cell
  free := by
    rw [upd_ne (Ne.symm nL)]
    exact I.free
  freeC := fun x c e => by
    rw [upd_ne (nC x c e)]
    exact I.freeC x c e
  pin := fun p hp => by
    obtain ⟨p1, p2, p3⟩ := I.pin p hp
    exact ⟨p1, by rw [upd_ne (nP p hp)]; exact p2, p3⟩
  hok := fun b o e => by
    by_cases hb : b = a
    · subst hb
      rw [upd_same] at e
      cases e
      exact new
    · rw [upd_ne hb] at e
      exact (I.hok b o e).stay (fun _ _ _ z => z) (fun c z => by rw [upd_ne (ne_of_none z na)]; exact z) (fun c xs z => by rw [upd_ne (ne_of_none z na)]; exact z)
  len := I.len
end
/-- what 'except x as n' wishes, where the exception is tracked behind the suite -/
def wKeep (K : PySem.W.Frag) (c : Value) (i : Nat) (ts : Addr → Value → Option Addr → TS) (Wout : WX) (D : Ends) : WX := fun cls d σ H =>
  ∃ (C dd : Addr) (b : Bool), cls = .ref C ∧ d = some dd ∧ PySem.W.exmOne K cls c = some b ∧
    (b = true → ∀ a, H a = none → ts a cls d { nx := fun σ2 H2 => D.nx (σ2.set i none) (upd H2 a (exv a C dd)), rt := D.rt, bk := fun _ _ => False, ct := fun _ _ => False } (σ.set i (some (.ref a))) H) ∧ (b = false → Wout cls d σ H)
section
variable {X : Cx} {x n : Str} {c : Value} {i : Nat} {body suite : List Stmt} {b0 : Stmt} {np pos pos' : Pos} {tb : WX → TS} {ts : Addr → Value → Option Addr → TS} {Wout : WX}
theorem ps_try_keep (hst : X.stack = X.env :: X.outer) (hfr0 : X.env.frame = some X.env.locals) (hex : X.ex = []) (nd : X.N.Nodup) (hi : X.N[i]? = some n) (hk : X.env.kindOf n = some .local) (hnm : Names X x c) (tk : Takes X Wout)
    (hbody : ∀ (W : WX) (pn : List (Addr × Obj)) (xe : Value → Shared → Prop), Takes (X.tr pn xe) W → PassesOwn (model X.prog X.w) X.A X.env xe → PSs (X.tr pn xe) body (tb W))
    (hsuite : ∀ (a : Addr) (oe : Obj) (cls : Value) (d : Option Addr) (pn : List (Addr × Obj)), Zc cls d oe → (∃ vs, oe.data = .fields vs) → PSs (X.suite a ((a, oe) :: pn)) (b0 :: suite) (ts a cls d)) :
    PS X (.Try body [.ExceptHandler (some (.Name x np)) (some n) (b0 :: suite) pos'] [] [] pos) (fun D σ H => tb (wKeep X.K c i ts Wout D) D σ H) := by
  refine ⟨fun pins s σ H D I rd => ?_⟩
  have okX := I.ok
  have hA : X.A.frames = some (X.env :: X.outer) := okX.frames.trans (congrArg some hst)
  refine wpAny_Try_except (wpAny_mono ((hbody (wKeep X.K c i ts Wout D) (X.pn ++ pins)
    (fun e s1 => wpAny (model X.prog X.w) X.A (noteFrame e X.env) (fun _ s2 => wpAny (model X.prog X.w) X.A (setFlight e none) (fun _ s3 => wpAny (model X.prog X.w) X.A (handleBy e X.env [.ExceptHandler (some (.Name x np)) (some n) (b0 :: suite) pos']) (SP X pins D) X.xe s3) X.xe s2) X.xe s1)
    (fun u t xx => ?_) PassesOwn.looking).run [] s σ H D (I.toTry _) rd) (fun fl s1 hfl => ?_) (fun _ _ z => z))
  · obtain ⟨a, G, sI, pins2, σ2, H2, cls, d, eu, J0, inG, upS, sky0, na, eos, bare, C, dd, b, ecls, ed, hexm, hyes, hno⟩ := xx
    subst eu
    subst ecls
    subst ed
    have J : Inv X pins σ2 H2 sI := J0.ofTry okX
    rw [hst] at sky0
    refine Sky.land Zc.steady hA hfr0 sky0 fun g3 fly3 up3 => ?_
    have J3 : Inv X pins σ2 H2 { t with heap := g3 } := J.landed inG fly3.1 (upS.trans up3) eos bare
    obtain ⟨o3, f3, at3, z3, dat3⟩ := fly3.there
    have offF : a ∉ frs (X.env :: X.outer) := fun hm => by
      obtain ⟨_, ob, eo, nof⟩ := fly3.2.2.1.mem hm
      have eq : o3 = ob := Option.some.inj (at3.symm.trans eo)
      exact nof _ (eq ▸ dat3)
    have nLoc : a ≠ X.env.locals := fun z => offF (List.mem_filterMap.mpr ⟨X.env, List.mem_cons_self, by rw [hfr0, z]⟩)
    have nFs : a ∉ X.fs := fun hm => by
      obtain ⟨ev, hev, qe⟩ := List.mem_filterMap.mp hm
      exact offF (List.mem_filterMap.mpr ⟨ev, List.mem_cons_of_mem _ hev, qe⟩)
    have outG : G.get? a = none := fly3.2.1
    have outI : ∀ o, sI.heap.get? a ≠ some o := fun o z => by
      have z2 := inG a o z (by rw [hst]; exact offF)
      rw [outG] at z2
      cases z2
    have out0 : ∀ o, X.s_0.heap.get? a ≠ some o := fun o z => by
      obtain ⟨o', z2⟩ := J.base.there a o z (by rw [hex]; exact List.not_mem_nil)
      exact outI o' z2
    have noPin : ∀ p ∈ X.pn ++ pins, p.1 ≠ a := fun p hp z => outI p.2 (z ▸ (J.pin p hp).1)
    refine wpAny_handleBy_cons (codeAny_handlers_test ?_) (fun q => by cases q)
    have isT : PySem.W.Looks (model X.prog X.w) g3 (typeOf (.ref a)) (.ref C) := fun _ _ _ _ kp q => wpAny_typeOf_ref (kp _ _ at3) (by rw [z3.1]; exact q)
    have asks := PySem.W.exm_one (M := model X.prog X.w) J3.kIn isT hexm
    have S3 := J3.suite at3 dat3 na nLoc nFs
    have named : ∀ {Q E : Value → Shared → Prop}, Q c { t with heap := g3 } → wpAny (model X.prog X.w) (X.A.mark (some (.ref a))) (eval (.Name x np) X.env) Q E { t with heap := g3 } := fun {Q E} q => by
      obtain ⟨gl, db, way⟩ := hnm
      rcases way with m1 | ⟨m1, m2, m3⟩
      · exact ld_glob (X := X.suite a ((a, o3) :: (X.pn ++ pins))) S3 gl m1 q db
      · exact ld_blt (X := X.suite a ((a, o3) :: (X.pn ++ pins))) S3 gl m1 m2 q m3 db
    refine named (asks.here ?_)
    cases b with
    | true =>
      refine codeAny_handlers_suite_as (HandSPX.lands_againZ fly3 fun g4 fly4 up4 => ?_)
      have J4 : Inv X pins σ2 H2 { t with heap := g4 } := J.landed inG fly4.1 ((upS.trans up3).trans up4) eos bare
      obtain ⟨o4, f4, at4, z4, dat4⟩ := fly4.there
      have S4 := J4.suite at4 dat4 na nLoc nFs
      refine store_ok (X := X.suite a ((a, o4) :: (X.pn ++ pins))) (v := .ref a) S4 nd hi (.inl hk) rfl (fun s5 S5 => ?_) (.inr hk)
      refine wpAny_mono ((hsuite a o4 (.ref C) (some dd) (X.pn ++ pins) z4 ⟨_, dat4⟩).run [] s5 _ H2 _ S5 (hyes rfl a na)) (fun fl s6 hfl => ?_) (fun _ _ z => z.elim)
      cases fl with
      | next =>
        obtain ⟨σ6, H6, S6, q6⟩ := hfl
        refine gone_ok (X := X.suite a ((a, o4) :: (X.pn ++ pins))) S6 nd hi hk fun s7 S7 => ?_
        obtain ⟨at7, na7, _, _, nc7⟩ := S7.pin (a, o4) (by rw [List.append_nil]; exact List.mem_cons_self)
        have J7 : Inv X pins (σ6.set i none) H6 s7 := S7.unsuite okX
        refine ⟨_, _, inv_track (u := exv a C dd) J7 na7 out0 nLoc (fun y cc e z => ?_) noPin (exv_ok at7 z4.1 z4.2 dat4), q6⟩
        obtain ⟨vv, oc, ec, dc⟩ := J7.cell y cc e
        rw [z, at7] at ec
        cases ec
        rw [dat4] at dc
        cases dc
      | ret u =>
        obtain ⟨v6, σ6, H6, S6, r6, q6⟩ := hfl
        exact gone_ok (S6.unsuite okX) nd hi hk fun s7 J7 => ⟨_, _, _, J7, r6, q6⟩
      | brk =>
        obtain ⟨_, _, _, q6⟩ := hfl
        exact q6.elim
      | cont =>
        obtain ⟨_, _, _, q6⟩ := hfl
        exact q6.elim
    | false =>
      refine wpAny_handleBy_nil ?_
      obtain ⟨_, _, _, ob, fv, T, oT, _, eo, _, dat, h1, _⟩ := id fly3
      unfold PySem.passOn
      refine wpAny_bind (wpAny_field eo dat h1 ?_)
      rw [if_neg (show ¬ ((Value.ref T == Value.none) = true) by simp)]
      have leave : wpAny (model X.prog X.w) X.A (setFlight (.ref a) X.env.frame) (fun _ s4 => wpAny (model X.prog X.w) X.A (throw (.ref a) : Sem Flow) (SP X pins D) X.xe s4) X.xe { t with heap := g3 } := by
        rw [hfr0]
        refine HandSPX.setFlight_upZ fly3 fun g4 held4 up4 => wpAny_throw (tk _ _ ⟨a, G, sI, pins, σ2, H2, .ref C, some dd, rfl, J, inG, (upS.trans up3).trans up4, .inr (.inr ?_), na, eos, bare, hno rfl⟩)
        rw [hst]
        exact held4
      first
        | exact wpAny_bind (wpAny_pure (wpAny_bind leave))
        | exact wpAny_bind leave
  · cases fl with
    | next =>
      obtain ⟨σ1, H1, J1, q1⟩ := hfl
      exact wpAny_execs_nil ⟨_, _, J1.ofTry okX, q1⟩
    | brk =>
      obtain ⟨σ1, H1, J1, q1⟩ := hfl
      exact ⟨_, _, J1.ofTry okX, q1⟩
    | cont =>
      obtain ⟨σ1, H1, J1, q1⟩ := hfl
      exact ⟨_, _, J1.ofTry okX, q1⟩
    | ret u =>
      obtain ⟨v1, σ1, H1, J1, r1, q1⟩ := hfl
      exact ⟨_, _, _, J1.ofTry okX, r1, q1⟩
end
/-! ### what such a value bears, and of which class it is -/
structure XvC (K : PySem.W.Frag) (C : Addr) : Prop where
  ga : PySem.W.findIn K (.ref C) "__getattribute__" = some (some (.builtin "BaseException.__getattribute__"))
  gg : PySem.W.findIn K (.ref C) "__getattr__" = some none
  sb : PySem.W.subIn K (.ref C) (.type "BaseException") = some true
  hd : PySem.W.hasDictIn K C = true
  kl : PySem.W.findIn K (.ref C) "__class__" = some (some (.builtin "object.__class__"))
  kg : PySem.W.specialIn K (.builtin "object.__class__") "__get__" = some (some (.builtin "getset_descriptor.__get__"))
  kt : PySem.W.takesIn K (.builtin "object.__class__") = some true
  ob : PySem.W.mroIn K C (.type "object") = some true
def tXv (K : PySem.W.Frag) (f : Str) (te : TE) : TE := fun σ H Q => te σ H fun y H1 => ∃ (a C d : Addr) (fs : List (Str × V)) (v : V), y = .ref a ∧ H1 a = some (exv a C d) ∧ XvC K C ∧ PySem.W.findIn K (.ref C) f = some none ∧ H1 d = some (.xd fs) ∧ fs.lookup f = some v ∧ Q v H1
theorem inst_of {X : Cx} {pins : List (Addr × Obj)} {σ : L2.St} {H : Hp} {s : Shared} {a C d : Addr} {fs : List (Str × V)} (I : Inv X pins σ H s) (ea : H a = some (exv a C d)) (ed : H d = some (.xd fs)) :
    ∃ (ob od : Obj) (mA : Str → Option Value), PySem.W.InstAt s.heap a ob C (some od) ∧ (∀ f, RelO (fs.lookup f) (mA f)) ∧ ∀ nm, PySem.W.lookIn nm od = some (mA nm) := by
  obtain ⟨ob, fv, h1, h2, h3, h4⟩ := exv_at I.hok ea
  obtain ⟨mA, hns, hr⟩ : ObjOk X.prog X.w H s.heap d (.xd fs) := I.hok d _ ed
  obtain ⟨od, ho, hl⟩ := lookIn_ns hns
  refine ⟨ob, od, mA, ⟨h1, h2, ?_, ?_⟩, hr, hl⟩
  · unfold PySem.W.notCls
    rw [h4]
  · rw [h3]
    exact ho
theorem pe_xv {X : Cx} {e : Expr} {te : TE} {pos : Pos} {f : Str} (he : PE X e te) (hb : attributeBase e f X.env (eval e X.env) = eval e X.env := by rfl) : PE X (.Attribute e f pos) (tXv X.K f te) := by
  refine ⟨fun pins s σ H Q I rd => attr_of hb (thn (he.run pins s σ H _ I rd) fun u s1 hh => ?_)⟩
  obtain ⟨y, H1, I1, ry, a, C, d, fs, v, ey, ea, T, hno, ed, hl, q⟩ := hh
  subst ey
  obtain rfl : u = Value.ref a := ry
  obtain ⟨ob, od, mA, J, hr, hlk⟩ := inst_of I1 ea ed
  obtain ⟨u2, e2, r2⟩ := RelO.some_of (v := v) (o := mA f) (by rw [← hl]; exact hr f)
  exact HandSPX.exc_get I1.kIn J T.ga T.gg T.sb (PySem.W.findObj_own T.hd hno rfl (by rw [hlk, e2])) (handed_of r2) ⟨v, H1, I1.tok _, r2, q⟩
/-- isinstance(e, c) -/
def rXvI (K : PySem.W.Frag) : List V → Hp → VK → Prop := fun xs H Q => ∃ (a C d : Addr) (fs : List (Str × V)) (c : V) (cu : Value) (b : Bool), xs = [.ref a, c] ∧ H a = some (exv a C d) ∧ XvC K C ∧ H d = some (.xd fs) ∧ ClsV c cu ∧ PySem.W.kitOne K (.ref C) cu = some b ∧ Q (.bl b) H
theorem call_isXv {X : Cx} : CallR X (.builtin "isinstance") (rXvI X.K) := by
  intro pins s σ H xs us Q I r h
  obtain ⟨a, C, d, fs, c, cu, b, rfl, ea, T, ed, hc, hk, q⟩ := h
  cases r with
  | cons r1 rr =>
    cases rr with
    | cons r2 r3 =>
      cases r3
      cases r1
      have ec := hc.eq r2
      subst ec
      obtain ⟨ob, od, mA, J, hr, hlk⟩ := inst_of I ea ed
      have hcl : (PySem.W.clsIn X.K C).isSome = true := by
        obtain ⟨cd, e1, _⟩ := PySem.W.any_some T.hd
        rw [e1]
        rfl
      exact PySem.W.kia_one (PySem.W.kitx_exc hcl T.ga T.gg T.sb T.kl T.kg T.kt T.ob) I.kIn J hk (fun z => nomatch z) fun tk => ⟨.bl b, H, I.kept (t' := tk) fun _ _ z => z, rfl, q⟩
/-- isinstance(e, (c1, c2, ..)) -/
def rXvT (K : PySem.W.Frag) : List V → Hp → VK → Prop := fun xs H Q => ∃ (a C d tp : Addr) (fs : List (Str × V)) (cs : List V) (cu : List Value) (b : Bool), xs = [.ref a, .ref tp] ∧ H a = some (exv a C d) ∧ XvC K C ∧ H d = some (.xd fs) ∧ H tp = some (.tup cs) ∧ Paired ClsV cs cu ∧
  PySem.W.kitAny K (.ref C) cu = some b ∧ Q (.bl b) H
theorem call_isXvT {X : Cx} : CallR X (.builtin "isinstance") (rXvT X.K) := by
  intro pins s σ H xs us Q I r h
  obtain ⟨a, C, d, tp, fs, cs, cu, b, rfl, ea, T, ed, et, hc, hk, q⟩ := h
  cases r with
  | cons r1 rr =>
    cases rr with
    | cons r2 r3 =>
      cases r3
      cases r1
      cases r2
      obtain ⟨ob, od, mA, J, hr, hlk⟩ := inst_of I ea ed
      have hcl : (PySem.W.clsIn X.K C).isSome = true := by
        obtain ⟨cd, e1, _⟩ := PySem.W.any_some T.hd
        rw [e1]
        rfl
      obtain ⟨hz, its, rv, ⟨c5, d5, t5, s5⟩, p1, p2, n5, p3⟩ : ObjOk X.prog X.w H s.heap tp (.tup cs) := I.hok tp _ et
      have ei := ClsV.all hc rv
      subst ei
      dsimp only at p2 p3
      subst p2 p3
      exact PySem.W.kia_tup (PySem.W.kitx_exc hcl T.ga T.gg T.sb T.kl T.kg T.kt T.ob) I.kIn J p1 hk (fun z => nomatch z) fun tk => ⟨.bl b, H, I.kept (t' := tk) fun _ _ z => z, rfl, q⟩
/-! ### calls with keywords of a def that may let an error out -/
structure KCalX (P : Program) (w : World) (K : PySem.W.Frag) (mg : Str → Option Value) (base : Heap) (k : Nat) (x : Str) (sp : Sp) (n : Nat) (ks : List Str) (gV : List V → List V → List V) : Prop where
  ex : ∃ (f : Addr) (fd : FuncData) (ps : List Str) (g : List Value → List Value → List Value), FnOk P w K mg base (L2.CX P w) k f fd ps sp ∧ mg x = some (.ref f) ∧ PySem.W.keepIn K (.ref f) = true ∧ KBn K fd ps n ks g gV
structure CalX (P : Program) (w : World) (K : PySem.W.Frag) (mg : Str → Option Value) (base : Heap) (k : Nat) (x : Str) (sp : Sp) (dvs : List V) : Prop where
  ex : ∃ (f : Addr) (fd : FuncData) (ps : List Str) (ds : List Value), FnOk P w K mg base (L2.CX P w) k f fd ps sp ∧ mg x = some (.ref f) ∧ PySem.W.keepIn K (.ref f) = true ∧ Binds K fd ps ds ∧ Vals dvs ds
theorem passX {X : Cx} : Passes (L2.CX X.prog X.w) X (fun _ _ _ => False) := fun _ _ _ _ _ _ _ h => by
  obtain ⟨_, _, _, _, _, _, _, _, _, _, _, _, z⟩ := h
  exact z.elim
section
variable {X : Cx} {k j n : Nat} {x : Str} {sp : Sp} {p pos : Pos} {e : Expr} {es : List Expr} {kws : List Keyword} {t tk : TA} {ks : List Str} {gV : List V → List V → List V} {dvs : List V}
theorem pe_cX (c : CalX X.prog X.w X.K X.mg X.base k x sp dvs) (hr : Room j X.A) (hk : k ≤ j) (hg : Gl X x) (ha : PA X (e :: es) t)
    (hdb : (x == ("__debug__" : Str)) = false := by decide) (he : starEach (e :: es) X.env = (false, eval e X.env) :: starEach es X.env := by rfl) (hpl : (backTo pos (starEach es X.env)).any (·.1) = false := by rfl) :
    PE X (.Call (.Name x p) (e :: es) [] pos) (tCall sp dvs (fun _ _ _ => False) t) := by
  obtain ⟨f, fd, ps, ds, F, hm, kp, b, d⟩ := c.ex
  exact pe_call F (hr.mono hk) hg hm kp b d passX ha hdb he hpl
theorem pe_kwX (c : KCalX X.prog X.w X.K X.mg X.base k x sp n ks gV) (hr : Room j X.A) (hk : k ≤ j) (hg : Gl X x) (ha : PA X (e :: es) t) (hkw : PK X kws tk)
    (hall : (backToKw pos (keywordEach kws X.env)).all (·.1.isSome) = true := by rfl) (hks : (backToKw pos (keywordEach kws X.env)).filterMap (·.1) = ks := by rfl)
    (hdb : (x == ("__debug__" : Str)) = false := by decide) (he : starEach (e :: es) X.env = (false, eval e X.env) :: starEach es X.env := by rfl)
    (hpl : ((backTo pos (starEach (e :: es) X.env)).any (·.1) || (backToKw pos (keywordEach kws X.env)).any (·.1.isNone)) = false := by rfl) :
    PE X (.Call (.Name x p) (e :: es) kws pos) (tCallN n ks.length sp gV (fun _ _ _ => False) t tk) := by
  obtain ⟨f, fd, ps, g, F, hm, kp, b⟩ := c.ex
  exact pe_callN F (hr.mono hk) hg hm kp b passX ha hkw hall hks hdb he hpl
theorem pe_kw0X (c : KCalX X.prog X.w X.K X.mg X.base k x sp 0 ks gV) (hr : Room j X.A) (hk : k ≤ j) (hg : Gl X x) (hkw : PK X kws tk)
    (hall : (backToKw pos (keywordEach kws X.env)).all (·.1.isSome) = true := by rfl) (hks : (backToKw pos (keywordEach kws X.env)).filterMap (·.1) = ks := by rfl)
    (hdb : (x == ("__debug__" : Str)) = false := by decide)
    (hpl : ((backTo pos (starEach [] X.env)).any (·.1) || (backToKw pos (keywordEach kws X.env)).any (·.1.isNone)) = false := by rfl) :
    PE X (.Call (.Name x p) [] kws pos) (tCallN 0 ks.length sp gV (fun _ _ _ => False) tNil tk) := by
  obtain ⟨f, fd, ps, g, F, hm, kp, b⟩ := c.ex
  refine ⟨fun pins s σ H Q I h => ?_⟩
  refine wpAny_Call_Name_kw (ld_glob I hg hm ?_ hdb)
  refine PySem.W.callWith_KW0 (h₀ := X.base) I.ok.mod.kin kp hall ?_ hpl
  refine thn (hkw.run pos pins s σ H _ I h) fun ws s2 ⟨zs, H2, I2, rz, l1, l2, q2⟩ => ⟨I2.kIn, ?_⟩
  rw [hks]
  exact run_fnN (us := []) (vs := []) F (hr.mono hk) b passX I2 .nil rz rfl l2 q2
/-- what it lets out is wished for at the caller's slots -/
def tCallNT (n m : Nat) (sp : Sp) (gV : List V → List V → List V) (W : WX) (t tk : TA) : TE := fun σ H Q => t σ H fun vs H1 => tk σ H1 fun zs H2 => vs.length = n ∧ zs.length = m ∧ sp (gV vs zs) H2 Q (WE W σ)
theorem pe_kwT {W : WX} (c : KCalX X.prog X.w X.K X.mg X.base k x sp n ks gV) (hr : Room j X.A) (hk : k ≤ j) (hg : Gl X x) (tkw : Takes X W) (ha : PA X (e :: es) t) (hkw : PK X kws tk)
    (hall : (backToKw pos (keywordEach kws X.env)).all (·.1.isSome) = true := by rfl) (hks : (backToKw pos (keywordEach kws X.env)).filterMap (·.1) = ks := by rfl)
    (hdb : (x == ("__debug__" : Str)) = false := by decide) (he : starEach (e :: es) X.env = (false, eval e X.env) :: starEach es X.env := by rfl)
    (hpl : ((backTo pos (starEach (e :: es) X.env)).any (·.1) || (backToKw pos (keywordEach kws X.env)).any (·.1.isNone)) = false := by rfl) :
    PE X (.Call (.Name x p) (e :: es) kws pos) (tCallNT n ks.length sp gV W t tk) := by
  obtain ⟨f, fd, ps, g, F, hm, kp, b⟩ := c.ex
  refine ⟨fun pins s σ H Q I h => ?_⟩
  refine wpAny_Call_Name_kw (ld_glob I hg hm ?_ hdb)
  refine PySem.W.callWith_KW (h₀ := X.base) I.ok.mod.kin kp hall (thn (ha.run pos pins s σ H _ I h) fun us s1 ⟨vs, H1, I1, r, q⟩ => ?_) hpl he
  refine thn (hkw.run pos pins s1 σ H1 _ I1 q) fun ws s2 ⟨zs, H2, I2, rz, l1, l2, q2⟩ => ⟨I2.kIn, ?_⟩
  rw [hks]
  have r2 := b.rel r rz
  refine wpAny_call (codeAny_mono (F.run X.A X.stack s2 H2 ⟨us, ks.zip ws⟩ (g us ws) (gV vs zs) Q (WE W σ) (hr.mono hk) I2.env0 (b.to s2 us ws I2.kIn (r.length.symm.trans l1) (rz.length.symm.trans l2)) r2 q2) fun res s' hq => ?_)
  cases res with
  | error er => exact passAt tkw σ pins H2 s2 er s' I2 hq
  | ok fl =>
    cases fl with
    | ret u => exact I2.after hq
    | next => exact hq.elim
    | brk => exact hq.elim
    | cont => exact hq.elim
end
end Thr
namespace PySem
namespace Oxb
open PySem.W PySem.Calls PyProof.Rows PySem.HandSPX
section
open Builtin Builtin.ObjectAttr
variable {prog : Program} {w : World} {A : Around} {R : Result → Shared → Prop} {h0 : Heap} {gs : Array GenState} {dr : Drawn} {tn : Nat} {os : OsState}
/-- the mro of such a class lets a field be stored -/
structure MroOk (m : List Value) : Prop where
  pass : ∀ self, refuseLoop self "__setattr__" m = pure ()
  obj : m.contains (.type "object") = true
  full : m.isEmpty = false
theorem sub_obj {K : W.Frag} {e C : Addr} {ob : Obj} {od : Option Obj} {cd : ClassData} (X : K.In h0) (I : W.InstAt h0 e ob C od) (hcd : W.clsIn K C = some cd) (hm : MroOk cd.mro) : W.Looks (model prog w) h0 (isInstance (.ref e) (.type "object")) true := by
  refine I.type.andThen (W.looks_mroIn X ?_)
  unfold W.mroIn
  rw [hcd, Option.bind_some, if_neg (by rw [hm.full]; decide), hm.obj]
/-- the first field: the dict is laid -/
theorem store_first {K : W.Frag} {nm : Str} {tk : Tok} {v : Value} {e C : Addr} {fv : Array Value} {cd : ClassData} (X : K.In h0) (he : h0.get? e = some { cls := .ref C, data := .fields fv }) (hcd : W.clsIn K C = some cd) (hm : MroOk cd.mro) (hh : cd.hasDict = true) (ha : W.findIn K (.ref C) nm = some none)
    (hq : ∀ h1 t1 dx, (∀ b o, b ≠ e → h0.get? b = some o → h1.get? b = some o) → h0.objs.size ≤ dx → dx ≠ e → h1.get? e = some { cls := .ref C, dict := some dx, data := .fields fv } → h1.Ns1 dx (fun y => if y = nm then some v else none) → R (.ok (.ret .none)) ⟨h1, gs, dr, t1, os⟩) :
    codeAny (model prog w) A (.call (.builtin "object.__setattr__") ⟨[.ref e, .str nm tk, v], []⟩) R ⟨h0, gs, dr, tn, os⟩ := by
  have J : W.InstAt h0 e { cls := .ref C, data := .fields fv } C none := ⟨he, rfl, rfl, trivial⟩
  have hes : e ≠ h0.objs.size := Nat.ne_of_lt (Heap.lt_size he)
  have L1 : W.Looks (model prog w) h0 (mroOf (.ref C)) cd.mro := (W.looks_clsIn X hcd).andThen .now
  have L2 : W.Looks (model prog w) h0 (storeTaker? none) none := .now
  have L4 : W.Looks (model prog w) h0 (classData C) cd := W.looks_clsIn X hcd
  refine codeAny_call_builtin F.store_object.slot.plain F.store_object.entry (@W.check_slot (model prog w) _ _ ⟨h0, gs, dr, tn, os⟩ "object.__setattr__" "object" "__setattr__" (.ref e) [.str nm tk, v] [] _ F.store_object.kind F.store_object.split (sub_obj X J hcd hm) (F.store_object.args (.ref e) (.str nm tk) v) ?_)
  rw [W.osa_eq, refuse_eq]
  refine wpAny_bind (wpAny_bind (J.type.at (wpAny_bind (L1.at ?_))))
  rw [hm.pass]
  refine wpAny_pure (wpAny_bind (J.type.at (wpAny_bind ((W.looks_findIn X ha).at (wpAny_bind (L2.at ?_))))))
  show wpAny _ _ (storeInOwnDict (.ref e) (.ref C) (.str nm tk) nm v false) _ _ _
  obtain ⟨c1, c2, c3, c4, c5, c6, c7, c8, c9, c10, c11⟩ := cd
  dsimp only at hh
  subst hh
  unfold storeInOwnDict ownDictForStores
  repeat (first | with_reducible refine store_in_new ?_ ?_ | with_reducible refine wpAny_loadPart_at he ?_ | with_reducible refine L4.at ?_ | wp_step)
  · exact ⟨_, #[], _, (Heap.get?_update_ne _ _ _ _ hes.symm).trans (Heap.get?_push_at rfl rfl), rfl, fun x hx => absurd hx (by simp), fun _ => rfl⟩
  · intro h1 t1 hn hs
    have he1 : (h0.push { cls := .type "dict", data := .dict #[] }).get? e = some { cls := .ref C, data := .fields fv } := Heap.get?_push_of_some _ he
    refine hq h1 t1 h0.objs.size (fun b o hb ho => ?_) (Nat.le_refl _) hes.symm ((hs.2 e hes).trans (Heap.get?_update_self _ he1 rfl)) hn
    exact (hs.2 b (Nat.ne_of_lt (Heap.lt_size ho))).trans ((Heap.get?_update_ne _ _ _ _ hb).trans (Heap.get?_push_of_some _ ho))
/-- a further field -/
theorem store_more {K : W.Frag} {nm : Str} {tk : Tok} {v : Value} {e C dx : Addr} {fv : Array Value} {cd : ClassData} {m0 : Str → Option Value} {nl : List Str} (X : K.In h0) (he : h0.get? e = some { cls := .ref C, dict := some dx, data := .fields fv }) (hns : h0.Ns1 dx m0) (hw : Within m0 nl) (hz : nl.length ≤ 1000)
    (hcd : W.clsIn K C = some cd) (hm : MroOk cd.mro) (hh : cd.hasDict = true) (ha : W.findIn K (.ref C) nm = some none)
    (hq : ∀ h1 t1, (∀ b o, b ≠ dx → h0.get? b = some o → h1.get? b = some o) → h1.Ns1 dx (fun y => if y = nm then some v else m0 y) → R (.ok (.ret .none)) ⟨h1, gs, dr, t1, os⟩) :
    codeAny (model prog w) A (.call (.builtin "object.__setattr__") ⟨[.ref e, .str nm tk, v], []⟩) R ⟨h0, gs, dr, tn, os⟩ := by
  obtain ⟨oD, esD, epD, hoD, _, _⟩ := hns.count hw
  have J : W.InstAt h0 e { cls := .ref C, dict := some dx, data := .fields fv } C (some oD) := ⟨he, rfl, rfl, hoD⟩
  have L1 : W.Looks (model prog w) h0 (mroOf (.ref C)) cd.mro := (W.looks_clsIn X hcd).andThen .now
  have L2 : W.Looks (model prog w) h0 (storeTaker? none) none := .now
  have L4 : W.Looks (model prog w) h0 (classData C) cd := W.looks_clsIn X hcd
  refine codeAny_call_builtin F.store_object.slot.plain F.store_object.entry (@W.check_slot (model prog w) _ _ ⟨h0, gs, dr, tn, os⟩ "object.__setattr__" "object" "__setattr__" (.ref e) [.str nm tk, v] [] _ F.store_object.kind F.store_object.split (sub_obj X J hcd hm) (F.store_object.args (.ref e) (.str nm tk) v) ?_)
  rw [W.osa_eq, refuse_eq]
  refine wpAny_bind (wpAny_bind (J.type.at (wpAny_bind (L1.at ?_))))
  rw [hm.pass]
  refine wpAny_pure (wpAny_bind (J.type.at (wpAny_bind ((W.looks_findIn X ha).at (wpAny_bind (L2.at ?_))))))
  show wpAny _ _ (storeInOwnDict (.ref e) (.ref C) (.str nm tk) nm v false) _ _ _
  obtain ⟨c1, c2, c3, c4, c5, c6, c7, c8, c9, c10, c11⟩ := cd
  dsimp only at hh
  subst hh
  unfold storeInOwnDict ownDictForStores
  repeat (first | with_reducible refine PySem.OEX.store_in_old hns hw hz ?_ | with_reducible refine wpAny_loadPart_at he ?_ | with_reducible refine L4.at ?_ | wp_step)
  exact fun h1 t1 hn hs => hq h1 t1 (fun b o hb ho => (hs.2 b hb).trans ho) hn
end
/-! ### making such an error: the built-in __new__ that it inherits, then its own __init__ -/
structure NewOk (newId : String) (bm : List Value) : Prop where
  ex : ∃ (Bn initn : String) (bn : List Value), ExcBaseFacts Bn newId initn bn ∧ bm.contains (.type Bn) = true ∧ bm.contains (.type "AttributeError") = false ∧ bm.contains (.type "NameError") = false
structure InitOk (B : String) (bm : List Value) : Prop where
  plain : plainId (B ++ ".__init__") = true
  entry : entryFor table (B ++ ".__init__") = some Builtin.«BaseException.__init__»
  kind : builtinKind (B ++ ".__init__") = some .slot
  split : splitId (B ++ ".__init__") = some (B, "__init__")
  row : Manifest.signature? (B ++ ".__init__") = some ⟨.positional, "*", B, .self, [⟨"args", .varPos, false⟩]⟩
  star : (B != "*") = true
  has : bm.contains (.type B) = true
section
variable {prog : Program} {w : World} {A : Around} {E : Value → Shared → Prop} {R : Result → Shared → Prop} {hp : Heap} {ga : Array GenState} {dw : Drawn} {tn : Nat} {os : OsState}
variable {n1 n2 : Str} {C N : Addr} {b1 bm : List Value} {hd : Bool} {s1 : List Str} {s2 : List Value} {ab : Bool} {co : Option Bool} {d1 : Option Addr} {k0 k1 k2 k3 k5 : Option Value} {B newId : String}
theorem init_any (I : InitOk B bm) {e t0 : Addr} {more : List Value} (hC : hp.get? C = some (excClassObj n1 n2 C N b1 bm hd s1 s2 ab co d1 k0 k1 k2 k3 k5 newId)) (he : hp.get? e = some (excO C t0)) (hl : more.length ≤ sizeLine)
    (hq : ∀ h2 t2, (∀ b o, b ≠ e → hp.get? b = some o → h2.get? b = some o) → h2.get? e = some (excO C t2) → R (.ok (.ret .none)) ⟨h2, ga, dw, tn, os⟩) :
    codeAny (model prog w) A (.call (.builtin (B ++ ".__init__")) ⟨.ref e :: more, []⟩) R ⟨hp, ga, dw, tn, os⟩ := by
  have hin : (Value.ref C :: bm).contains (.type B) = true := by
    rw [List.contains_cons, I.has, Bool.or_true]
  have hst := I.star
  refine codeAny_call_builtin I.plain I.entry ?_
  have chk : ∀ {Q : Unit → Shared → Prop} {E : Value → Shared → Prop} {A : Around}, Q () ⟨hp, ga, dw, tn, os⟩ → wpAny (model prog w) A (checkBuiltinCall (B ++ ".__init__") ⟨.ref e :: more, []⟩) Q E ⟨hp, ga, dw, tn, os⟩ := fun {Q E A} q => by
    simp only [checkBuiltinCall, I.kind, I.split, I.row]
    repeat (first | (with_reducible refine wpAny_loadPart_at he ?_) | with_reducible refine wpAny_loadPart_at hC ?_ | (with_reducible refine wpAny_isSubtype_exc hC ?_; rw [hin]) | wp_step)
    refine wpAny_onRaise ?_
    rw [show ∀ (x y : String) (n : Nat), Bind.check ⟨.positional, "*", B, .self, [⟨"args", .varPos, false⟩]⟩ x y n (List.map (fun z => z.fst) ({ pos := Value.ref e :: more } : Args).kw) = pure () from
      fun _ _ _ => check_star_args _ _ _ _ _ _]
    exact wpAny_pure q
  refine chk ?_
  wp_walk
  refine hq _ hp.objs.size (fun b o hb ho => ?_) ?_
  · exact (Heap.get?_update_other _ _ (Ne.symm hb)).trans (Heap.get?_push_of_some _ ho)
  · exact Heap.get?_update_self _ (Heap.get?_push_of_some _ he) rfl
theorem new_any (Nw : NewOk newId bm) {more : List Value} (hC : hp.get? C = some (excClassObj n1 n2 C N b1 bm hd s1 s2 ab co d1 k0 k1 k2 k3 k5 newId)) (hl : more.length ≤ sizeLine)
    (hq : R (.ok (.ret (.ref (hp.objs.size + 1)))) ⟨(hp.push { cls := .type "tuple", data := .seq more.toArray }).push { cls := .ref C, data := .fields #[.ref hp.objs.size, .none, .none, .none, .bool false, .none] }, ga, dw, tn, os⟩) :
    codeAny (model prog w) A (.builtin newId ⟨.ref C :: more, []⟩) R ⟨hp, ga, dw, tn, os⟩ := by
  obtain ⟨Bn, initn, bn, FB, c1, c2, c3⟩ := Nw.ex
  have e0 := FB.ends
  have e1 : (Value.ref C :: bm).contains (.type Bn) = true := by
    rw [List.contains_cons, c1, Bool.or_true]
  have e2 : (Value.ref C :: bm).contains (.type "AttributeError") = false := by
    rw [List.contains_cons, c2]
    rfl
  have e3 : (Value.ref C :: bm).contains (.type "NameError") = false := by
    rw [List.contains_cons, c3]
    rfl
  refine codeAny_builtinAt FB.entry ?_
  unfold Builtin.«BaseException.__new__»
  refine wpAt_bind ?_
  show wpAt _ _ _ (stack >>= _) _ _ _
  refine wpAt_bind (wpAt_stack fun p below => wpAt_of_wpAny ?_)
  wp_walk
  refine wpAt_of_wpAny ?_
  rw [FB.owner]
  repeat (first | with_reducible refine wpAny_madeHere_exc FB.canon hC ?_ | with_reducible refine wpAny_loadPart_at hC ?_ | (with_reducible refine wpAny_isSubtype_exc hC ?_; first | rw [e1] | rw [e2] | rw [e3]) | wp_step)
  show R _ _
  rw [Heap.size_push]
  exact hq
theorem check_any (Nw : NewOk newId bm) {M : Model} {more : List Value} {Q : Unit → Shared → Prop} (hC : hp.get? C = some (excClassObj n1 n2 C N b1 bm hd s1 s2 ab co d1 k0 k1 k2 k3 k5 newId)) (q : Q () ⟨hp, ga, dw, tn, os⟩) :
    wpAny M A (checkBuiltinCall newId ⟨.ref C :: more, []⟩) Q E ⟨hp, ga, dw, tn, os⟩ := by
  obtain ⟨Bn, initn, bn, FB, c1, c2, c3⟩ := Nw.ex
  have e1 : (Value.ref C :: bm).contains (.type Bn) = true := by
    rw [List.contains_cons, c1, Bool.or_true]
  have e0 := FB.noStar
  simp only [checkBuiltinCall, FB.newKind, FB.newSplit, FB.newRow]
  repeat (first | refine wpAny_loadPart_at hC ?_ | (refine wpAny_isSubtype_exc hC ?_; rw [e1]) | refine wpAny_staticBase_exc hC ?_ | refine wpAny_madeBy_exc hC ?_ | simp only [bne_self_eq_false, Bool.false_eq_true, if_false] | wp_step)
  exact q
theorem typeCall_any (Nw : NewOk newId bm) {more : List Value} {fI : Addr} {Q : Fin → Shared → Prop} (hC : hp.get? C = some (excClassObj n1 n2 C N b1 bm hd s1 s2 ab co d1 k0 k1 k2 k3 k5 newId))
    (hi : W.Looks (model prog w) hp (typeLookup (.ref C) "__init__") (some (.ref fI))) (hb : ∀ self, W.Looks (model prog w) hp (bindSpecial (.ref fI) self) (.ref fI, [self])) (hl : more.length ≤ sizeLine)
    (hq : codeAny (model prog w) A (.call (.ref fI) ⟨.ref (hp.objs.size + 1) :: more, []⟩) (fun res z => match res with | .ok (.ret v) => v = .none ∧ Q (.done (.ret (.ref (hp.objs.size + 1)))) z | .ok _ => False | .error er => E er z) ⟨(hp.push (W.kdv_tup more)).push (excO C hp.objs.size), ga, dw, tn, os⟩) :
    wpAny (model prog w) A (Builtin.«type.__call__» ⟨.ref C :: more, []⟩) Q E ⟨hp, ga, dw, tn, os⟩ := by
  obtain ⟨Bn, initn, bn, FB, _, _, _⟩ := id Nw.ex
  repeat (first | with_reducible refine wpAny_loadPart_at hC ?_ | with_reducible refine wpAny_madeBy_exc hC ?_ | wp_step)
  refine codeAny_call_builtin_code (Code.quiet_builtin _ FB.quiet) (check_any Nw hC ?_)
  refine new_any Nw hC hl ?_
  show wpAny _ _ _ _ _ _
  have up : ∀ b o, hp.get? b = some o → ((hp.push (W.kdv_tup more)).push (excO C hp.objs.size)).get? b = some o := fun b o z => Heap.get?_push_of_some _ (Heap.get?_push_of_some _ z)
  have hC2 := up _ _ hC
  have hE : ((hp.push (W.kdv_tup more)).push (excO C hp.objs.size)).get? (hp.objs.size + 1) = some (excO C hp.objs.size) := by heap_get
  have self_in : (Value.ref C :: bm).contains (.ref C) = true := by simp
  have l1 := hi.keeps up
  have l2 := (hb (.ref (hp.objs.size + 1))).keeps up
  unfold isInstance
  repeat (first | with_reducible refine wpAny_loadPart_at hE ?_ | (with_reducible refine wpAny_isSubtype_exc hC2 ?_; rw [self_in]) | wp_step)
  show wpAny _ _ (typeLookup (.ref C) _) _ _ _
  refine l1.at (wpAny_holding (wpAny_bind (l2.at ?_)))
  refine wpAny_bind (wpAny_call (codeAny_mono hq fun res z q => ?_))
  rcases res with er | (v | _ | _ | _) <;> first | exact q | exact q.elim | skip
  obtain ⟨rfl, q⟩ := q
  first
    | exact wpAny_pure (wpAny_pure q)
    | (wp_walk; exact q)
theorem call_any (Nw : NewOk newId bm) {more : List Value} {fI : Addr} (hC : hp.get? C = some (excClassObj n1 n2 C N b1 bm hd s1 s2 ab co d1 k0 k1 k2 k3 k5 newId))
    (hi : W.Looks (model prog w) hp (typeLookup (.ref C) "__init__") (some (.ref fI))) (hb : ∀ self, W.Looks (model prog w) hp (bindSpecial (.ref fI) self) (.ref fI, [self])) (hl : more.length ≤ sizeLine)
    (hq : codeAny (model prog w) (A.under (.builtin "type.__call__" ⟨.ref C :: more, []⟩)) (.call (.ref fI) ⟨.ref (hp.objs.size + 1) :: more, []⟩) (W.InitBack (hp.objs.size + 1) R) ⟨(hp.push (W.kdv_tup more)).push (excO C hp.objs.size), ga, dw, tn, os⟩) :
    codeAny (model prog w) A (.call (.ref C) ⟨more, []⟩) R ⟨hp, ga, dw, tn, os⟩ := by
  have g1 := tc_lookup
  have g2 := tc_bind (.ref C)
  have hty : (⟨hp, ga, dw, tn, os⟩ : Shared).TypeIs (.ref C) "type" := ⟨_, hC, rfl⟩
  refine codeAny_of_tree ?_
  show wpAny _ _ (callAny (.ref C) _) _ _ _
  repeat (any_goals (first | assumption | with_reducible refine wpAny_loadPart_at hC ?_ | wp_step))
  refine ⟨rfl, codeAny_call_builtin_at (Code.quiet_builtin _ (by decide +kernel)) entry_typeCall (wpAny_check_type_call_sub hC (typeCall_any Nw hC hi hb hl (codeAny_mono hq fun res z q => ?_)))⟩
  rcases res with er | (v | _ | _ | _) <;> exact q
end
end Oxb
end PySem
namespace Thr
open PySem PySem.Spec PyProof.Rows L2
/-! ### an own error straight over a built-in one (B), whose __init__ is walked as a def -/
structure OxC (K : PySem.W.Frag) (C : Addr) (B : String) : Prop where
  cls : ∃ nm q N bs bm sn sub ab col dd k0 k1 k2 k3 k5 newId, K.lookup C = some (excClassObj nm q C N bs bm true sn sub ab col dd k0 k1 k2 k3 k5 newId) ∧ PySem.Oxb.NewOk newId bm ∧ PySem.Oxb.InitOk B bm ∧ PySem.Oxb.MroOk (.ref C :: bm)
  sa : PySem.W.findIn K (.ref C) "__setattr__" = some (some (.builtin "object.__setattr__"))
  exC : PySem.W.subIn K (.ref C) (.type "BaseException") = some true
  tyC : PySem.W.typeIn K (.ref C) = some (.type "type")
  kC : PySem.W.keepIn K (.ref C) = true
section
variable {X : Cx} {pins : List (Addr × Obj)} {σ : L2.St} {H : Hp} {s : Shared} {a C dx : Addr} {f : Str} {y : V} {u : Value} {fs : List (Str × V)} {Q : Unit → Shared → Prop} {E : Value → Shared → Prop} {A : Around} {B : String}
theorem ox_first (T : OxC X.K C B) (I : Inv X pins σ H s) (e : H a = some (exo a C none)) (hno : PySem.W.findIn X.K (.ref C) f = some none) (ry : RelV y u)
    (h : ∀ dx s1, H dx = none → dx ≠ a → Inv X pins σ (upd (upd H dx (exd dx [(f, y)])) a (exo a C (some dx))) s1 → Q () s1) : wpAny (model X.prog X.w) A (setAttr (.ref a) f u) Q E s := by
  obtain ⟨nm, q, N, bs, bm, sn, sub, ab, col, dd, k0, k1, k2, k3, k5, newId, hC, _, _, hm⟩ := T.cls
  have hcl : ∃ cd, PySem.W.clsIn X.K C = some cd ∧ cd.mro = .ref C :: bm ∧ cd.hasDict = true := by
    unfold PySem.W.clsIn
    rw [hC]
    exact ⟨_, rfl, rfl, rfl⟩
  obtain ⟨cd, hcd, em, ehd⟩ := hcl
  obtain ⟨t1, ho⟩ := exo_at I.hok e
  obtain ⟨h0, gs, dr, tn, os⟩ := s
  refine PySem.W.set_plain I.kIn (ox := { cls := .ref C, dict := none, data := .fields #[.ref t1, .none, .none, .none, .bool false, .none] }) (od := none) ⟨ho, rfl, rfl, trivial⟩ T.sa ?_
  refine PySem.Oxb.store_first I.kIn ho hcd (em ▸ hm) ehd hno (fun h1 t2 dx kp hbig hne hx hn => ?_)
  have fresh : H dx = none := I.hok.fresh hbig
  have offD : ∀ {b : Addr} {o : Obj}, h0.get? b = some o → b ≠ dx := fun z => Nat.ne_of_lt (Nat.lt_of_lt_of_le (Heap.lt_size z) hbig)
  have offA : ∀ {b : Addr}, H b = none → b ≠ a := fun {b} z1 z2 => by
    rw [z2, e] at z1
    cases z1
  have U : Un X.fs [] H (upd (upd H dx (exd dx [(f, y)])) a (exo a C (some dx))) h0 h1 :=
    ⟨fun b o z n _ _ => kp b o (offA n) z, fun b o z n _ _ => ⟨o.slots, kp b o (offA n) z⟩, fun b o z n _ => by rw [upd_ne (offA n), upd_ne (offD z)]; exact n,
      fun b o z _ => by
        by_cases hb : b = a
        · exact ⟨_, hb ▸ hx⟩
        · exact ⟨o, kp b o hb z⟩,
      fun b xs z => by rw [upd_ne (at_ne e z exo_tup), upd_ne (ne_of_none z fresh)]; exact z,
      fun b o v z => by rw [upd_ne (at_ne e z exo_frz), upd_ne (ne_of_none z fresh)]; exact z,
      fun b ps z => ⟨#[], by rw [upd_ne (at_ne e z exo_tbl), upd_ne (ne_of_none z fresh), z]; simp⟩⟩
  refine h dx _ fresh hne (I.un (t' := t2) U fun b o z => ?_)
  by_cases hb : b = a
  · subst hb
    rw [upd_same] at z
    cases z
    exact exo_ok hx
  rw [upd_ne hb] at z
  by_cases hd : b = dx
  · subst hd
    rw [upd_same] at z
    cases z
    exact exd_ok hn (relO_put (fs := []) ry fun _ => True.intro)
  rw [upd_ne hd] at z
  refine (I.hok b o z).stay (fun c v hc z2 => kp c v (fun z3 => ?_) z2) (fun c hc => by rw [upd_ne (at_ne e hc exo_own), upd_ne (ne_of_none hc fresh)]; exact hc) (fun c xs hc => by rw [upd_ne (at_ne e hc exo_tup), upd_ne (ne_of_none hc fresh)]; exact hc)
  rcases hc with hc | hc
  · exact hb (hc.symm.trans z3)
  · exact at_ne e hc exo_own z3
theorem ox_more (T : OxC X.K C B) (I : Inv X pins σ H s) (e : H a = some (exo a C (some dx))) (ed : H dx = some (exd dx fs)) (hl : fs.length ≤ 900) (hno : PySem.W.findIn X.K (.ref C) f = some none) (ry : RelV y u)
    (h : ∀ s1, Inv X pins σ (upd H dx (exd dx ((f, y) :: fs))) s1 → Q () s1) : wpAny (model X.prog X.w) A (setAttr (.ref a) f u) Q E s := by
  obtain ⟨nm, q, N, bs, bm, sn, sub, ab, col, dd, k0, k1, k2, k3, k5, newId, hC, _, _, hm⟩ := T.cls
  have hcl : ∃ cd, PySem.W.clsIn X.K C = some cd ∧ cd.mro = .ref C :: bm ∧ cd.hasDict = true := by
    unfold PySem.W.clsIn
    rw [hC]
    exact ⟨_, rfl, rfl, rfl⟩
  obtain ⟨cd, hcd, em, ehd⟩ := hcl
  obtain ⟨t1, ho⟩ := exo_at I.hok e
  obtain ⟨mA, hns, rel⟩ := exd_at I.hok ed
  have hw := within_of rel
  obtain ⟨h0, gs, dr, tn, os⟩ := s
  obtain ⟨oD, _, _, hoD, _, _⟩ := hns.count hw
  refine PySem.W.set_plain I.kIn (ox := { cls := .ref C, dict := some dx, data := .fields #[.ref t1, .none, .none, .none, .bool false, .none] }) (od := some oD) ⟨ho, rfl, rfl, hoD⟩ T.sa ?_
  refine PySem.Oxb.store_more I.kIn ho hns hw (by rw [List.length_map]; omega) hcd (em ▸ hm) ehd hno (fun h1 t2 kp hn => ?_)
  obtain ⟨o2, _, _, e2, _⟩ := id hn
  exact h _ (I.write (t' := t2) (x := dx) (e := dx) (o := exd dx ((f, y) :: fs)) (by rw [ed]; exact True.intro) (.inl rfl) kp ⟨o2, e2⟩ (exd_ok hn (relO_put ry rel)))
theorem ox_init {us : List Value} {Q : Value → Shared → Prop} (T : OxC X.K C B) (I : Inv X pins σ H s) (e : H a = some (exo a C none)) (hl : us.length ≤ sizeLine) (h : ∀ s1, Inv X pins σ H s1 → Q .none s1) :
    wpAny (model X.prog X.w) A (call (.builtin (B ++ ".__init__")) (.ref a :: us)) Q E s := by
  obtain ⟨nm, q, N, bs, bm, sn, sub, ab, col, dd, k0, k1, k2, k3, k5, newId, hC, _, FB, _⟩ := T.cls
  obtain ⟨t1, ho⟩ := exo_at I.hok e
  obtain ⟨h0, gs, dr, tn, os⟩ := s
  refine wpAny_call (PySem.Oxb.init_any FB (I.kIn _ _ hC) ho hl fun h1 t2 kp hx => ?_)
  have J := I.write (t' := tn) (x := a) (e := a) (o := exo a C none) (by rw [e]; exact True.intro) (.inl rfl) kp ⟨_, hx⟩ (exo_ok hx)
  have same : upd H a (exo a C none) = H := funext fun b => by
    by_cases hb : b = a
    · rw [hb, upd_same, e]
    · rw [upd_ne hb]
  rw [same] at J
  exact h _ J
end
/-- B.__init__(self, ..) -/
def tBI (K : PySem.W.Frag) (B : String) (ta : TA) : TE := fun σ H Q => ta σ H fun vs H1 => ∃ (a C : Addr) (ws : List V), vs = .ref a :: ws ∧ ws.length ≤ 1000 ∧ OxC K C B ∧ H1 a = some (exo a C none) ∧ Q .non H1
/-- self.f = e -/
def tOxs (K : PySem.W.Frag) (f : Str) (to te : TE) : TS := fun D σ H => te σ H fun y H1 => to σ H1 fun x H2 => ∃ (a C : Addr) (B : String), x = .ref a ∧ OxC K C B ∧ PySem.W.findIn K (.ref C) f = some none ∧
  ((H2 a = some (exo a C none) ∧ ∀ dx, H2 dx = none → dx ≠ a → D.nx σ (upd (upd H2 dx (exd dx [(f, y)])) a (exo a C (some dx)))) ∨
    ∃ (dx : Addr) (fs : List (Str × V)), H2 a = some (exo a C (some dx)) ∧ H2 dx = some (exd dx fs) ∧ fs.length ≤ 900 ∧ D.nx σ (upd H2 dx (exd dx ((f, y) :: fs))))
section
variable {X : Cx} {o e : Expr} {es : List Expr} {to te : TE} {ta : TA} {f : Str} {p p' p1 p2 pos : Pos} {B : String}
/-- B's own facts: the name, its type, its __init__ -/
structure BInit (K : PySem.W.Frag) (B : String) : Prop where
  boot : bootBuiltins (Str.ofString B) = some (.type B)
  ty : typeOf (.type B) = pure (.type "type")
  stub : Manifest.isStub B = false
  fnd : PySem.W.findCls K (.type B) (.type "type") "__init__" = some (.val (.builtin (B ++ ".__init__")))
  out : PySem.W.handedIn (.builtin (B ++ ".__init__")) = true
  nn : Str.ofString B ≠ "__name__"
  nd : (Str.ofString B == ("__debug__" : Str)) = false
theorem pe_binit {pl : Sem Bool} (b : BInit X.K B) (hg : Gl X (Str.ofString B)) (hm : X.mg (Str.ofString B) = none) (ha : PA X (e :: es) ta)
    (hc : eval (.Call (.Attribute (.Name (Str.ofString B) p1) "__init__" p2) (e :: es) [] pos) X.env = (do
      let ov ← eval (.Name (Str.ofString B) p1) X.env
      standAt p2.atName
      let (fn, first) ← holding [ov] (getMethod ov "__init__" pl)
      callWith pos fn first (backTo pos (starEach (e :: es) X.env)) (backToKw pos (keywordEach [] X.env))) := by rfl)
    (he : starEach (e :: es) X.env = (false, eval e X.env) :: starEach es X.env := by rfl) (hpl : (backTo pos (starEach es X.env)).any (·.1) = false := by rfl) :
    PE X (.Call (.Attribute (.Name (Str.ofString B) p1) "__init__" p2) (e :: es) [] pos) (tBI X.K B ta) := by
  refine ⟨fun pins s σ H Q I rd => ?_⟩
  refine PySem.W.methodCall_KW (ld_blt I hg hm b.boot ?_ b.nn b.nd) hc
  obtain ⟨m, fr⟩ := I.fr
  refine PySem.W.method_type fr I.ok.mod.kin b.ty b.stub b.fnd b.out ?_
  show wpAny _ _ (callWith pos (Value.builtin (B ++ ".__init__")) [] (backTo pos (starEach (e :: es) X.env)) []) _ _ _
  refine PyProof.Rows.callWith_method1 (thn (ha.run pos pins _ σ H _ (I.tok _) rd) fun us s1 ⟨vs, H1, I1, r1, a, C, ws, ev, hl, T, ea, q⟩ => ?_) he hpl
  subst ev
  cases r1 with
  | cons ra rs =>
    cases ra
    exact ox_init T I1 ea (by rw [← Paired.length rs, sizeLine_eq]; omega) fun s2 J => ⟨.non, H1, J, rfl, q⟩
theorem ps_oxs (ho : PE X o to) (he : PE X e te) (hs : swapsWith e (some (.Attribute o f p')) pos.line X.env = pure false := by rfl) : PS X (.Assign [.Attribute o f p'] e pos) (tOxs X.K f to te) := by
  refine ⟨fun pins s σ H D I rd => plainObj_wpAny_Assign_Attribute (thn (he.run pins s σ H _ I rd) fun v s1 ⟨y, H1, I1, r1, q1⟩ => thn (ho.run pins s1 σ H1 _ I1 q1) fun u s2 ⟨z, H2, I2, r2, a, C, B, ez, T, hno, q⟩ => ?_) hs⟩
  subst ez
  cases r2
  rcases q with ⟨ea, q⟩ | ⟨dx, fs, ea, ed, hl, q⟩
  · exact ox_first T I2 ea hno r1 fun dx s3 n ne J => ⟨σ, _, J, q dx n ne⟩
  · exact ox_more T I2 ea ed hl hno r1 fun s3 J => ⟨σ, _, J, q⟩
end
/-- C(e, ..) as a value: tracked from then on -/
def tMkV (C : Addr) (sp : Sp) (ta : TA) : TE := fun σ H Q => ta σ H fun vs H1 => vs.length ≤ 1000 ∧ ∀ a, H1 a = none → sp (.ref a :: vs) (upd H1 a (exo a C none))
  (fun v H2 => v = .non ∧ ∃ (d : Addr) (fs : List (Str × V)), H2 a = some (exo a C (some d)) ∧ H2 d = some (exd d fs) ∧ Q (.ref a) (upd (upd H2 a (exv a C d)) d (.xd fs))) (fun _ _ _ => False)
section
variable {X : Cx} {e : Expr} {es : List Expr} {ta : TA} {p pos : Pos} {B : String} {CX : CXT} {x : Str} {C fI : Addr} {k : Nat} {fd : FuncData} {ps : List Str} {sp : Sp}
/-- the exception that its __init__ has left, as a value -/
theorem inv_value {pins : List (Addr × Obj)} {σ : L2.St} {H : Hp} {s : Shared} {a d : Addr} {fs : List (Str × V)} (I : Inv X pins σ H s) (ea : H a = some (exo a C (some d))) (ed : H d = some (exd d fs)) :
    Inv X pins σ (upd (upd H a (exv a C d)) d (.xd fs)) s := by
  obtain ⟨t1, h1⟩ := exo_at I.hok ea
  obtain ⟨mA, h2, rel⟩ := exd_at I.hok ed
  obtain ⟨od, es', ep', h3, h4, _⟩ := id h2
  have nda : d ≠ a := fun z => by
    rw [z, h1] at h3
    have z2 := Option.some.inj h3
    subst z2
    cases h4
  have I1 := I.write (t' := s.toks) (x := a) (e := a) (o := exv a C d) (h' := s.heap) (by rw [ea]; exact True.intro) (.inl rfl) (fun _ _ _ z => z) ⟨_, h1⟩ (exv_ok h1 rfl rfl rfl)
  have ed1 : (upd H a (exv a C d)) d = some (exd d fs) := by
    rw [upd_ne nda]
    exact ed
  exact I1.write (t' := s.toks) (x := d) (e := d) (o := .xd fs) (h' := s.heap) (by rw [ed1]; exact True.intro) (.inl rfl) (fun _ _ _ z => z) ⟨_, h3⟩ ⟨mA, h2, rel⟩
theorem run_ox {pins : List (Addr × Obj)} {σ : L2.St} {H1 : Hp} {vs : List V} {us : List Value} {hp : Heap} {gs : Array GenState} {dr : Drawn} {tk : Nat} {os : OsState} {Qk : V → Hp → Prop} {G : Value → Shared → Prop} (T : OxC X.K C B) (iC : PySem.W.findIn X.K (.ref C) "__init__" = some (some (.ref fI)))
    (tI : PySem.W.typeIn X.K (.ref fI) = some (.type "function")) (F1 : FnOk X.prog X.w X.K X.mg X.base CX k fI fd ps sp) (hr : Room (k + 1) X.A) (hb : Binds X.K fd ps []) (hx : Passes CX X (fun _ _ _ => False)) (I1 : Inv X pins σ H1 ⟨hp, gs, dr, tk, os⟩) (r1 : Vals vs us) (hz : vs.length ≤ 1000)
    (q1 : sp (.ref (hp.objs.size + 1) :: vs) (upd H1 (hp.objs.size + 1) (exo (hp.objs.size + 1) C none)) Qk (fun _ _ _ => False))
    (fin : ∀ (kk : ∀ b o, hp.get? b = some o → ((hp.push (PySem.W.kdv_tup us)).push (PySem.HandSPX.excO C hp.objs.size)).get? b = some o)
      (I2 : Inv X pins σ (upd H1 (hp.objs.size + 1) (exo (hp.objs.size + 1) C none)) ⟨(hp.push (PySem.W.kdv_tup us)).push (PySem.HandSPX.excO C hp.objs.size), gs, dr, tk, os⟩) (v : V) (u : Value) (H2 : Hp) (s2 : Shared), s2.os = os → AllBare s2.gens →
      Un (frs X.stack) [] (upd H1 (hp.objs.size + 1) (exo (hp.objs.size + 1) C none)) H2 ((hp.push (PySem.W.kdv_tup us)).push (PySem.HandSPX.excO C hp.objs.size)) s2.heap → HOk X.prog X.w H2 s2.heap → RelV v u → Qk v H2 → u = .none ∧ G (.ref (hp.objs.size + 1)) s2) :
    wpAny (model X.prog X.w) X.A (call (.ref C) us) G X.xe ⟨hp, gs, dr, tk, os⟩ := by
  obtain ⟨nm, q, N, bs, bm, sn, sub, ab, col, dd, k0, k1, k2, k3, k5, newId, hC, Nw, _, _⟩ := T.cls
  have kk : ∀ b o, hp.get? b = some o → ((hp.push (PySem.W.kdv_tup us)).push (PySem.HandSPX.excO C hp.objs.size)).get? b = some o := fun b o z => Heap.get?_push_of_some _ (Heap.get?_push_of_some _ z)
  have hE : ((hp.push (PySem.W.kdv_tup us)).push (PySem.HandSPX.excO C hp.objs.size)).get? (hp.objs.size + 1) = some (PySem.HandSPX.excO C hp.objs.size) := by heap_get
  have I2 := I1.laid (t' := tk) (a := hp.objs.size + 1) (o := exo (hp.objs.size + 1) C none) kk (Nat.le_succ _) (exo_ok hE)
  have r2 : Vals (V.ref (hp.objs.size + 1) :: vs) (Value.ref (hp.objs.size + 1) :: us) := .cons rfl r1
  have hl : (Value.ref (hp.objs.size + 1) :: us ++ []).length = ps.length := by
    rw [List.append_nil, ← r2.length]
    exact F1.len _ _ _ _ q1
  have bd := hb _ (Value.ref (hp.objs.size + 1) :: us) I2.kIn hl
  rw [List.append_nil] at bd
  refine wpAny_call (PySem.Oxb.call_any Nw (I1.kIn _ _ hC) (PySem.W.looks_findIn I1.kIn iC) (fun self => PySem.W.bind_fn I1.kIn self tI) (by rw [← Paired.length r1, sizeLine_eq]; omega)
    (codeAny_mono (F1.run _ X.stack _ _ ⟨Value.ref (hp.objs.size + 1) :: us, []⟩ (Value.ref (hp.objs.size + 1) :: us) _ _ (fun _ _ _ => False) (hr.make C us []) (I2.env0.make C us []) bd r2 q1) fun res s2 hq => ?_))
  cases res with
  | error er => exact hx pins σ _ _ er s2 I2 hq
  | ok fl =>
    cases fl with
    | ret u =>
      obtain ⟨v, H2, o2, b2, un2, ok2, rv, qv⟩ := hq
      exact fin kk I2 v u H2 s2 o2 b2 un2 ok2 rv qv
    | next => exact hq.elim
    | brk => exact hq.elim
    | cont => exact hq.elim
/-- raise C(e, ..) -/
theorem pmk_ox (T : OxC X.K C B) (iC : PySem.W.findIn X.K (.ref C) "__init__" = some (some (.ref fI))) (tI : PySem.W.typeIn X.K (.ref fI) = some (.type "function"))
    (F1 : FnOk X.prog X.w X.K X.mg X.base CX k fI fd ps sp) (hr : Room (k + 1) X.A) (hb : Binds X.K fd ps []) (hx : Passes CX X (fun _ _ _ => False)) (hg : Gl X x) (hm : X.mg x = some (.ref C)) (ha : PA X (e :: es) ta)
    (hdb : (x == ("__debug__" : Str)) = false := by decide) (he : starEach (e :: es) X.env = (false, eval e X.env) :: starEach es X.env := by rfl) (hpl : (backTo pos (starEach es X.env)).any (·.1) = false := by rfl) :
    PMk X (.Call (.Name x p) (e :: es) [] pos) (tMkO C sp [] ta) := by
  intro pins s σ H Q I rd
  refine wpAny_Call_Name_kw (ld_glob I hg hm ?_ hdb)
  refine PySem.W.callWith_K (h₀ := X.base) I.ok.mod.kin T.kC (thn (ha.run pos pins s σ H _ I rd) fun us s1 ⟨vs, H1, I1, r1, hz, q1⟩ => ⟨I1.kIn, ?_⟩) he hpl
  show wpAny _ _ (call (.ref C) us) _ _ _
  obtain ⟨hp, gs, dr, tk, os⟩ := s1
  have q2 := q1 (hp.objs.size + 1) (I1.hok.fresh (Nat.le_succ _))
  rw [List.append_nil] at q2
  refine run_ox T iC tI F1 hr hb hx I1 r1 hz q2 (fun kk I2 v u H2 s2 o2 b2 un2 ok2 rv qv => ?_)
  obtain ⟨ev, d, fs, ea, ed, hd1, q3⟩ := qv
  subst ev
  obtain ⟨h2, g2, d2, t2, os2⟩ := s2
  exact ⟨rv, mk_end (raises_own T.exC T.tyC) I1 (Nat.le_succ _) kk un2 ok2 o2 b2 ea ed hd1 q3⟩
theorem pe_mkv (T : OxC X.K C B) (iC : PySem.W.findIn X.K (.ref C) "__init__" = some (some (.ref fI))) (tI : PySem.W.typeIn X.K (.ref fI) = some (.type "function"))
    (F1 : FnOk X.prog X.w X.K X.mg X.base CX k fI fd ps sp) (hr : Room (k + 1) X.A) (hb : Binds X.K fd ps []) (hx : Passes CX X (fun _ _ _ => False)) (hg : Gl X x) (hm : X.mg x = some (.ref C)) (ha : PA X (e :: es) ta)
    (hdb : (x == ("__debug__" : Str)) = false := by decide) (he : starEach (e :: es) X.env = (false, eval e X.env) :: starEach es X.env := by rfl) (hpl : (backTo pos (starEach es X.env)).any (·.1) = false := by rfl) :
    PE X (.Call (.Name x p) (e :: es) [] pos) (tMkV C sp ta) := by
  refine ⟨fun pins s σ H Q I rd => ?_⟩
  refine wpAny_Call_Name_kw (ld_glob I hg hm ?_ hdb)
  refine PySem.W.callWith_K (h₀ := X.base) I.ok.mod.kin T.kC (thn (ha.run pos pins s σ H _ I rd) fun us s1 ⟨vs, H1, I1, r1, hz, q1⟩ => ⟨I1.kIn, ?_⟩) he hpl
  show wpAny _ _ (call (.ref C) us) _ _ _
  obtain ⟨hp, gs, dr, tk, os⟩ := s1
  have q2 := q1 (hp.objs.size + 1) (I1.hok.fresh (Nat.le_succ _))
  refine run_ox T iC tI F1 hr hb hx I1 r1 hz q2 (fun kk I2 v u H2 s2 o2 b2 un2 ok2 rv qv => ?_)
  obtain ⟨ev, d, fs, ea, ed, q3⟩ := qv
  subst ev
  exact ⟨rv, .ref (hp.objs.size + 1), _, inv_value (I2.call' (ch := []) o2 un2 ok2 b2 (fun _ z => nomatch z)) ea ed, rfl, q3⟩
end
/-! ### the built-in errors that own ones stand under -/
section
open PySem.Oxb
theorem cont_obj {C : Addr} {l : List Value} (h : l.contains (.type "object") = true) : (Value.ref C :: l).contains (.type "object") = true := by
  rw [List.contains_cons, h, Bool.or_true]
theorem new_VE : NewOk "ValueError.__new__" [.type "ValueError", .type "Exception", .type "BaseException", .type "object"] := ⟨_, _, _, PySem.F.excBase_ValueError, by decide +kernel, by decide +kernel, by decide +kernel⟩
theorem init_VE : InitOk "ValueError" [.type "ValueError", .type "Exception", .type "BaseException", .type "object"] :=
  ⟨PySem.F.excBase_ValueError.init.plain, PySem.F.excBase_ValueError.initEntry, PySem.F.excBase_ValueError.initKind, PySem.F.excBase_ValueError.initSplit, PySem.F.excBase_ValueError.initRow, PySem.F.excBase_ValueError.noStar, by decide +kernel⟩
theorem mro_VE (C : Addr) : MroOk (.ref C :: [.type "ValueError", .type "Exception", .type "BaseException", .type "object"]) :=
  ⟨fun self => by rw [refuseLoop_ref]; exact PySem.F.store_ValueError.passes self, cont_obj (by decide +kernel), rfl⟩
theorem new_KE : NewOk "LookupError.__new__" [.type "KeyError", .type "LookupError", .type "Exception", .type "BaseException", .type "object"] := ⟨_, _, _, PySem.F.excBase_LookupError, by decide +kernel, by decide +kernel, by decide +kernel⟩
theorem init_KE : InitOk "KeyError" [.type "KeyError", .type "LookupError", .type "Exception", .type "BaseException", .type "object"] where
  plain := by decide +kernel
  entry := entryFor_alias (id' := "BaseException.__init__") (by rw [fastTable_eq_tree]; kernel_rfl)
    (by first | rfl | decide +kernel) (by decide +kernel) (by rw [fastTable_eq_tree]; kernel_rfl)
  kind := by kernel_rfl
  split := by kernel_rfl
  row := by kernel_rfl
  star := by decide +kernel
  has := by decide +kernel
theorem mro_KE (C : Addr) : MroOk (.ref C :: [.type "KeyError", .type "LookupError", .type "Exception", .type "BaseException", .type "object"]) :=
  ⟨fun self => by rw [refuseLoop_ref]; kernel_rfl, cont_obj (by decide +kernel), rfl⟩
end
/-! ### further built-in errors that own ones stand under -/
section
open PySem.Oxb
theorem new_LE : NewOk "LookupError.__new__" [.type "LookupError", .type "Exception", .type "BaseException", .type "object"] := ⟨_, _, _, PySem.F.excBase_LookupError, by decide +kernel, by decide +kernel, by decide +kernel⟩
theorem init_LE : InitOk "LookupError" [.type "LookupError", .type "Exception", .type "BaseException", .type "object"] :=
  ⟨PySem.F.excBase_LookupError.init.plain, PySem.F.excBase_LookupError.initEntry, PySem.F.excBase_LookupError.initKind, PySem.F.excBase_LookupError.initSplit, PySem.F.excBase_LookupError.initRow, PySem.F.excBase_LookupError.noStar, by decide +kernel⟩
theorem mro_LE (C : Addr) : MroOk (.ref C :: [.type "LookupError", .type "Exception", .type "BaseException", .type "object"]) :=
  ⟨fun self => by rw [refuseLoop_ref]; kernel_rfl, cont_obj (by decide +kernel), rfl⟩
theorem new_IE : NewOk "IndexError.__new__" [.type "IndexError", .type "LookupError", .type "Exception", .type "BaseException", .type "object"] := ⟨_, _, _, PySem.F.excBase_IndexError, by decide +kernel, by decide +kernel, by decide +kernel⟩
theorem init_IE : InitOk "IndexError" [.type "IndexError", .type "LookupError", .type "Exception", .type "BaseException", .type "object"] :=
  ⟨PySem.F.excBase_IndexError.init.plain, PySem.F.excBase_IndexError.initEntry, PySem.F.excBase_IndexError.initKind, PySem.F.excBase_IndexError.initSplit, PySem.F.excBase_IndexError.initRow, PySem.F.excBase_IndexError.noStar, by decide +kernel⟩
theorem mro_IE (C : Addr) : MroOk (.ref C :: [.type "IndexError", .type "LookupError", .type "Exception", .type "BaseException", .type "object"]) :=
  ⟨fun self => by rw [refuseLoop_ref]; kernel_rfl, cont_obj (by decide +kernel), rfl⟩
theorem new_RE : NewOk "RuntimeError.__new__" [.type "RuntimeError", .type "Exception", .type "BaseException", .type "object"] := ⟨_, _, _, PySem.F.excBase_RuntimeError, by decide +kernel, by decide +kernel, by decide +kernel⟩
theorem init_RE : InitOk "RuntimeError" [.type "RuntimeError", .type "Exception", .type "BaseException", .type "object"] :=
  ⟨PySem.F.excBase_RuntimeError.init.plain, PySem.F.excBase_RuntimeError.initEntry, PySem.F.excBase_RuntimeError.initKind, PySem.F.excBase_RuntimeError.initSplit, PySem.F.excBase_RuntimeError.initRow, PySem.F.excBase_RuntimeError.noStar, by decide +kernel⟩
theorem mro_RE (C : Addr) : MroOk (.ref C :: [.type "RuntimeError", .type "Exception", .type "BaseException", .type "object"]) :=
  ⟨fun self => by rw [refuseLoop_ref]; kernel_rfl, cont_obj (by decide +kernel), rfl⟩
theorem new_AE : NewOk "ArithmeticError.__new__" [.type "ArithmeticError", .type "Exception", .type "BaseException", .type "object"] := ⟨_, _, _, PySem.F.excBase_ArithmeticError, by decide +kernel, by decide +kernel, by decide +kernel⟩
theorem init_AE : InitOk "ArithmeticError" [.type "ArithmeticError", .type "Exception", .type "BaseException", .type "object"] :=
  ⟨PySem.F.excBase_ArithmeticError.init.plain, PySem.F.excBase_ArithmeticError.initEntry, PySem.F.excBase_ArithmeticError.initKind, PySem.F.excBase_ArithmeticError.initSplit, PySem.F.excBase_ArithmeticError.initRow, PySem.F.excBase_ArithmeticError.noStar, by decide +kernel⟩
theorem mro_AE (C : Addr) : MroOk (.ref C :: [.type "ArithmeticError", .type "Exception", .type "BaseException", .type "object"]) :=
  ⟨fun self => by rw [refuseLoop_ref]; kernel_rfl, cont_obj (by decide +kernel), rfl⟩
theorem new_OE : NewOk "OverflowError.__new__" [.type "OverflowError", .type "ArithmeticError", .type "Exception", .type "BaseException", .type "object"] := ⟨_, _, _, PySem.F.excBase_OverflowError, by decide +kernel, by decide +kernel, by decide +kernel⟩
theorem init_OE : InitOk "OverflowError" [.type "OverflowError", .type "ArithmeticError", .type "Exception", .type "BaseException", .type "object"] :=
  ⟨PySem.F.excBase_OverflowError.init.plain, PySem.F.excBase_OverflowError.initEntry, PySem.F.excBase_OverflowError.initKind, PySem.F.excBase_OverflowError.initSplit, PySem.F.excBase_OverflowError.initRow, PySem.F.excBase_OverflowError.noStar, by decide +kernel⟩
theorem mro_OE (C : Addr) : MroOk (.ref C :: [.type "OverflowError", .type "ArithmeticError", .type "Exception", .type "BaseException", .type "object"]) :=
  ⟨fun self => by rw [refuseLoop_ref]; kernel_rfl, cont_obj (by decide +kernel), rfl⟩
end
end Thr
namespace PySem
namespace Oxb
open PySem.W PySem.Calls PyProof.Rows PySem.HandSPX
section
variable {prog : Program} {w : World} {A : Around} {E : Value → Shared → Prop} {R : Result → Shared → Prop} {hp : Heap} {ga : Array GenState} {dw : Drawn} {tn : Nat} {os : OsState}
variable {n1 n2 : Str} {C N : Addr} {b1 bm : List Value} {hd : Bool} {s1 : List Str} {s2 : List Value} {ab : Bool} {co : Option Bool} {d1 : Option Addr} {k0 k1 k2 k3 k5 : Option Value} {B newId : String}
theorem new_kw (Nw : NewOk newId bm) {more : List Value} {kw : List (Str × Value)} (hC : hp.get? C = some (excClassObj n1 n2 C N b1 bm hd s1 s2 ab co d1 k0 k1 k2 k3 k5 newId)) (hl : more.length ≤ sizeLine)
    (hq : R (.ok (.ret (.ref (hp.objs.size + 1)))) ⟨(hp.push { cls := .type "tuple", data := .seq more.toArray }).push { cls := .ref C, data := .fields #[.ref hp.objs.size, .none, .none, .none, .bool false, .none] }, ga, dw, tn, os⟩) :
    codeAny (model prog w) A (.builtin newId ⟨.ref C :: more, kw⟩) R ⟨hp, ga, dw, tn, os⟩ := by
  obtain ⟨Bn, initn, bn, FB, c1, c2, c3⟩ := Nw.ex
  have e0 := FB.ends
  have e1 : (Value.ref C :: bm).contains (.type Bn) = true := by
    rw [List.contains_cons, c1, Bool.or_true]
  have e2 : (Value.ref C :: bm).contains (.type "AttributeError") = false := by
    rw [List.contains_cons, c2]
    rfl
  have e3 : (Value.ref C :: bm).contains (.type "NameError") = false := by
    rw [List.contains_cons, c3]
    rfl
  refine codeAny_builtinAt FB.entry ?_
  unfold Builtin.«BaseException.__new__»
  refine wpAt_bind ?_
  show wpAt _ _ _ (stack >>= _) _ _ _
  refine wpAt_bind (wpAt_stack fun p below => wpAt_of_wpAny ?_)
  wp_walk
  refine wpAt_of_wpAny ?_
  rw [FB.owner]
  repeat (first | with_reducible refine wpAny_madeHere_exc FB.canon hC ?_ | with_reducible refine wpAny_loadPart_at hC ?_ | (with_reducible refine wpAny_isSubtype_exc hC ?_; first | rw [e1] | rw [e2] | rw [e3]) | wp_step)
  show R _ _
  rw [Heap.size_push]
  exact hq
theorem check_kw (Nw : NewOk newId bm) {M : Model} {more : List Value} {kw : List (Str × Value)} {Q : Unit → Shared → Prop} (hC : hp.get? C = some (excClassObj n1 n2 C N b1 bm hd s1 s2 ab co d1 k0 k1 k2 k3 k5 newId)) (q : Q () ⟨hp, ga, dw, tn, os⟩) :
    wpAny M A (checkBuiltinCall newId ⟨.ref C :: more, kw⟩) Q E ⟨hp, ga, dw, tn, os⟩ := by
  obtain ⟨Bn, initn, bn, FB, c1, c2, c3⟩ := Nw.ex
  have e1 : (Value.ref C :: bm).contains (.type Bn) = true := by
    rw [List.contains_cons, c1, Bool.or_true]
  have e0 := FB.noStar
  simp only [checkBuiltinCall, FB.newKind, FB.newSplit, FB.newRow]
  repeat (first | refine wpAny_loadPart_at hC ?_ | (refine wpAny_isSubtype_exc hC ?_; rw [e1]) | refine wpAny_staticBase_exc hC ?_ | refine wpAny_madeBy_exc hC ?_ | simp only [bne_self_eq_false, Bool.false_eq_true, if_false] | wp_step)
  exact q
theorem typeCall_kw (Nw : NewOk newId bm) {more : List Value} {kw : List (Str × Value)} {fI : Addr} {Q : Fin → Shared → Prop} (hC : hp.get? C = some (excClassObj n1 n2 C N b1 bm hd s1 s2 ab co d1 k0 k1 k2 k3 k5 newId))
    (hi : W.Looks (model prog w) hp (typeLookup (.ref C) "__init__") (some (.ref fI))) (hb : ∀ self, W.Looks (model prog w) hp (bindSpecial (.ref fI) self) (.ref fI, [self])) (hl : more.length ≤ sizeLine)
    (hq : codeAny (model prog w) A (.call (.ref fI) ⟨.ref (hp.objs.size + 1) :: more, kw⟩) (fun res z => match res with | .ok (.ret v) => v = .none ∧ Q (.done (.ret (.ref (hp.objs.size + 1)))) z | .ok _ => False | .error er => E er z) ⟨(hp.push (W.kdv_tup more)).push (excO C hp.objs.size), ga, dw, tn, os⟩) :
    wpAny (model prog w) A (Builtin.«type.__call__» ⟨.ref C :: more, kw⟩) Q E ⟨hp, ga, dw, tn, os⟩ := by
  obtain ⟨Bn, initn, bn, FB, _, _, _⟩ := id Nw.ex
  repeat (first | with_reducible refine wpAny_loadPart_at hC ?_ | with_reducible refine wpAny_madeBy_exc hC ?_ | wp_step)
  refine codeAny_call_builtin_code (Code.quiet_builtin _ FB.quiet) (check_kw Nw hC ?_)
  refine new_kw Nw hC hl ?_
  show wpAny _ _ _ _ _ _
  have up : ∀ b o, hp.get? b = some o → ((hp.push (W.kdv_tup more)).push (excO C hp.objs.size)).get? b = some o := fun b o z => Heap.get?_push_of_some _ (Heap.get?_push_of_some _ z)
  have hC2 := up _ _ hC
  have hE : ((hp.push (W.kdv_tup more)).push (excO C hp.objs.size)).get? (hp.objs.size + 1) = some (excO C hp.objs.size) := by heap_get
  have self_in : (Value.ref C :: bm).contains (.ref C) = true := by simp
  have l1 := hi.keeps up
  have l2 := (hb (.ref (hp.objs.size + 1))).keeps up
  unfold isInstance
  repeat (first | with_reducible refine wpAny_loadPart_at hE ?_ | (with_reducible refine wpAny_isSubtype_exc hC2 ?_; rw [self_in]) | wp_step)
  show wpAny _ _ (typeLookup (.ref C) _) _ _ _
  refine l1.at (wpAny_holding (wpAny_bind (l2.at ?_)))
  refine wpAny_bind (wpAny_call (codeAny_mono hq fun res z q => ?_))
  rcases res with er | (v | _ | _ | _) <;> first | exact q | exact q.elim | skip
  obtain ⟨rfl, q⟩ := q
  first
    | exact wpAny_pure (wpAny_pure q)
    | (wp_walk; exact q)
theorem call_kw (Nw : NewOk newId bm) {more : List Value} {kw : List (Str × Value)} {fI : Addr} (hC : hp.get? C = some (excClassObj n1 n2 C N b1 bm hd s1 s2 ab co d1 k0 k1 k2 k3 k5 newId))
    (hi : W.Looks (model prog w) hp (typeLookup (.ref C) "__init__") (some (.ref fI))) (hb : ∀ self, W.Looks (model prog w) hp (bindSpecial (.ref fI) self) (.ref fI, [self])) (hl : more.length ≤ sizeLine)
    (hq : codeAny (model prog w) (A.under (.builtin "type.__call__" ⟨.ref C :: more, kw⟩)) (.call (.ref fI) ⟨.ref (hp.objs.size + 1) :: more, kw⟩) (W.InitBack (hp.objs.size + 1) R) ⟨(hp.push (W.kdv_tup more)).push (excO C hp.objs.size), ga, dw, tn, os⟩) :
    codeAny (model prog w) A (.call (.ref C) ⟨more, kw⟩) R ⟨hp, ga, dw, tn, os⟩ := by
  have g1 := tc_lookup
  have g2 := tc_bind (.ref C)
  have hty : (⟨hp, ga, dw, tn, os⟩ : Shared).TypeIs (.ref C) "type" := ⟨_, hC, rfl⟩
  refine codeAny_of_tree ?_
  show wpAny _ _ (callAny (.ref C) _) _ _ _
  repeat (any_goals (first | assumption | with_reducible refine wpAny_loadPart_at hC ?_ | wp_step))
  refine ⟨rfl, codeAny_call_builtin_at (Code.quiet_builtin _ (by decide +kernel)) entry_typeCall (wpAny_check_type_call_sub hC (typeCall_kw Nw hC hi hb hl (codeAny_mono hq fun res z q => ?_)))⟩
  rcases res with er | (v | _ | _ | _) <;> exact q
end
end Oxb
end PySem
namespace Thr
open PySem PySem.Spec PyProof.Rows L2
/-! ### C(k=e, ..) as a value -/
def tMkVK (C : Addr) (sp : Sp) (gV : List V → List V → List V) (m : Nat) (tk : TA) : TE := fun σ H Q => tk σ H fun zs H1 => zs.length = m ∧ ∀ a, H1 a = none → sp (gV [.ref a] zs) (upd H1 a (exo a C none))
  (fun v H2 => v = .non ∧ ∃ (d : Addr) (fs : List (Str × V)), H2 a = some (exo a C (some d)) ∧ H2 d = some (exd d fs) ∧ Q (.ref a) (upd (upd H2 a (exv a C d)) d (.xd fs))) (fun _ _ _ => False)
section
variable {X : Cx} {kws : List Keyword} {tk : TA} {p pos : Pos} {B : String} {CX : CXT} {x : Str} {C fI : Addr} {k : Nat} {fd : FuncData} {ps ks : List Str} {sp : Sp} {g : List Value → List Value → List Value} {gV : List V → List V → List V}
theorem pe_mkvK (T : OxC X.K C B) (iC : PySem.W.findIn X.K (.ref C) "__init__" = some (some (.ref fI))) (tI : PySem.W.typeIn X.K (.ref fI) = some (.type "function"))
    (F1 : FnOk X.prog X.w X.K X.mg X.base CX k fI fd ps sp) (hr : Room (k + 1) X.A) (hb : KBn X.K fd ps 1 ks g gV) (hx : Passes CX X (fun _ _ _ => False)) (hg : Gl X x) (hm : X.mg x = some (.ref C)) (hkw : PK X kws tk)
    (hall : (backToKw pos (keywordEach kws X.env)).all (·.1.isSome) = true := by rfl) (hks : (backToKw pos (keywordEach kws X.env)).filterMap (·.1) = ks := by rfl) (hdb : (x == ("__debug__" : Str)) = false := by decide)
    (hpl : ((backTo pos (starEach [] X.env)).any (·.1) || (backToKw pos (keywordEach kws X.env)).any (·.1.isNone)) = false := by rfl) :
    PE X (.Call (.Name x p) [] kws pos) (tMkVK C sp gV ks.length tk) := by
  refine ⟨fun pins s σ H Q I rd => wpAny_Call_Name_kw (ld_glob I hg hm ?_ hdb)⟩
  refine PySem.W.callWith_KW0 (h₀ := X.base) I.ok.mod.kin T.kC hall ?_ hpl
  refine thn (hkw.run pos pins s σ H _ I rd) fun ws s1 ⟨zs, H1, I1, rz, l2, q1⟩ => ⟨I1.kIn, ?_⟩
  rw [hks]
  show wpAny _ _ (call (.ref C) [] (ks.zip ws)) _ _ _
  obtain ⟨hp, gs, dr, tk, os⟩ := s1
  have q2 := q1 (hp.objs.size + 1) (I1.hok.fresh (Nat.le_succ _))
  obtain ⟨nm, q, N, bs, bm, sn, sub, ab, col, dd, k0, k1, k2, k3, k5, newId, hC, Nw, _, _⟩ := T.cls
  have kk : ∀ b o, hp.get? b = some o → ((hp.push (PySem.W.kdv_tup [])).push (PySem.HandSPX.excO C hp.objs.size)).get? b = some o := fun b o z => Heap.get?_push_of_some _ (Heap.get?_push_of_some _ z)
  have hE : ((hp.push (PySem.W.kdv_tup [])).push (PySem.HandSPX.excO C hp.objs.size)).get? (hp.objs.size + 1) = some (PySem.HandSPX.excO C hp.objs.size) := by heap_get
  have I2 := I1.laid (t' := tk) (a := hp.objs.size + 1) (o := exo (hp.objs.size + 1) C none) kk (Nat.le_succ _) (exo_ok hE)
  have rs : Vals [V.ref (hp.objs.size + 1)] [Value.ref (hp.objs.size + 1)] := .cons rfl .nil
  have r2 := hb.rel rs rz
  refine wpAny_call (PySem.Oxb.call_kw (more := []) (kw := ks.zip ws) Nw (I1.kIn _ _ hC) (PySem.W.looks_findIn I1.kIn iC) (fun self => PySem.W.bind_fn I1.kIn self tI) (by decide)
    (codeAny_mono (F1.run _ X.stack _ _ ⟨[Value.ref (hp.objs.size + 1)], ks.zip ws⟩ (g [Value.ref (hp.objs.size + 1)] ws) (gV [V.ref (hp.objs.size + 1)] zs) _ (fun _ _ _ => False) (hr.make C [] _) (I2.env0.make C [] _) (hb.to _ _ ws I2.kIn rfl (rz.length.symm.trans l2)) r2 q2) fun res s2 hq => ?_))
  cases res with
  | error er => exact hx pins σ _ _ er s2 I2 hq
  | ok fl =>
    cases fl with
    | ret u =>
      obtain ⟨v, H2, o2, b2, un2, ok2, rv, ev, d, fs, ea, ed, q3⟩ := hq
      subst ev
      exact ⟨rv, .ref (hp.objs.size + 1), _, inv_value (I2.call' (ch := []) o2 un2 ok2 b2 (fun _ z => nomatch z)) ea ed, rfl, q3⟩
    | next => exact hq.elim
    | brk => exact hq.elim
    | cont => exact hq.elim
end
/-! ### defs that make texts of lists and tuples: they run where no such text is under way -/
structure FnG (P : Program) (w : World) (K : PySem.W.Frag) (mg : Str → Option Value) (base : Heap) (k : Nat) (f : Addr) (fd : FuncData) (qs : List Str) (sp : Sp) : Prop where
  size : ∀ xs G R Z, sp xs G R Z → xs.length = qs.length
  goes : ∀ (B : Around) (up : List Env) (t : Shared) (G : Hp) (ar : Args) (ws : List Value) (xs : List V) (R : VK) (Z : XK), B.guards = some [] → Room k B → Env0 P w K mg base B up t G →
    BindsTo t fd ar (qs.zip ws) → Vals xs ws → sp xs G R Z → codeAny (model P w) B (.call (.ref f) ar) (CR CX0 up P w G t R Z) t
section
variable {P : Program} {w : World} {K : PySem.W.Frag} {mg : Str → Option Value} {base : Heap}
theorem fng_of {x qual : Str} {st : Stmt} {f : Addr} {fd : FuncData} {N qs : List Str} {k : Nat} {sp : Sp} (F : L2.Fun K x qual st f fd) (S : FnScope N qs (defScope st)) (size : ∀ xs G R Z, sp xs G R Z → xs.length = qs.length)
    (hb : ∀ (cv : Value) (B : Around) (up : List Env) (t : Shared) (G : Hp) (xs : List V) (R : VK) (Z : XK), (B.deeper (envOfC qual (defScope st) t.heap.objs.size f cv)).guards = some [] → Room k (B.deeper (envOfC qual (defScope st) t.heap.objs.size f cv)) → sp xs G R Z →
      ∃ d, PSs (cxOf CX0 P w K mg base N qual (defScope st) f cv B up t G Z).nox (defBody st) d ∧ d { nx := fun _ G' => R .non G', rt := R } (start N xs) G) : FnG P w K mg base (k + 1) f fd qs sp := by
  obtain ⟨oc, od, kV, doc, pm, an, cv, ct, osl, rfl, at_, co⟩ := F.ex
  refine ⟨size, fun B up t G ar ws xs R Z hg rm e0 bt rel hsp => ?_⟩
  have keepB : ∀ b o, base.get? b = some o → t.heap.get? b = some o := fun b o e => (e0.bs b o e).1
  have inT : K.In t.heap := e0.mod.kin.keeps keepB
  have noL : t.heap.NoLimit := e0.mod.nolimit.keeps keepB
  have kinds : ∀ y ∈ qs.zip ws, (defScope st).names.lookup y.1 = some .local ∨ ((defScope st).names.lookup y.1 = some .cell ∧ ((cellsFrom (t.heap.objs.size + 1) (defScope st).names []).lookup y.1).isSome = true) := by
    rintro ⟨n, v⟩ hy
    rcases S.par n (List.of_mem_zip hy).1 with z | z
    · exact .inl z
    · exact .inr ⟨z, PySem.W.cellsFrom_some _ _ _ (.inl z)⟩
  refine codeAny_call_function rm.depth (inT _ _ at_) rfl S.co S.gen rfl (PySem.W.codeRec_of inT co) (bt _ _ _ _ ?_)
  refine wpAny_newFunctionEnv_cells S.kind kinds fun en hen t1 y => ?_
  subst hen
  refine ⟨noL.keeps y.toInCall.keep, codeAny_func ?_⟩
  obtain ⟨d, hd, hq⟩ := hb cv B up t G xs R Z hg (rm.deeper _) hsp
  have J0 : Inv (cxOf CX0 P w K mg base N qual (defScope st) f cv B up t G Z) [] (start N xs) G t1 := inv_start S rm.hd e0 (size _ _ _ _ hsp) rel y
  refine wpAny_mono (hd.nox.run [] t1 (start N xs) G _ J0 hq) (fun out t' hs => ?_) fun _ _ hs => hs
  cases out with
  | next =>
    obtain ⟨_, G', J, z⟩ := hs
    exact ⟨.non, G', J.os, J.bare, J.base, J.hok, rfl, z⟩
  | ret u =>
    obtain ⟨v, _, G', J, rv, z⟩ := hs
    exact ⟨v, G', J.os, J.bare, J.base, J.hok, rv, z⟩
  | brk =>
    obtain ⟨_, _, _, z⟩ := hs
    exact z.elim
  | cont =>
    obtain ⟨_, _, _, z⟩ := hs
    exact z.elim
end
/-- such a def under its name -/
structure CalG (P : Program) (w : World) (K : PySem.W.Frag) (mg : Str → Option Value) (base : Heap) (k : Nat) (x : Str) (sp : Sp) : Prop where
  ex : ∃ (f : Addr) (fd : FuncData) (qs : List Str), FnG P w K mg base k f fd qs sp ∧ mg x = some (.ref f) ∧ PySem.W.keepIn K (.ref f) = true ∧ Binds K fd qs []
section
variable {X : Cx} {k j : Nat} {x : Str} {sp : Sp} {p pos : Pos} {e : Expr} {es : List Expr} {t : TA}
theorem pe_cG (c : CalG X.prog X.w X.K X.mg X.base k x sp) (hg : X.A.guards = some []) (hr : Room j X.A) (hk : k ≤ j) (gl : Gl X x) (ha : PA X (e :: es) t) (hdb : (x == ("__debug__" : Str)) = false := by decide)
    (he : starEach (e :: es) X.env = (false, eval e X.env) :: starEach es X.env := by rfl) (hpl : (backTo pos (starEach es X.env)).any (·.1) = false := by rfl) : PE X (.Call (.Name x p) (e :: es) [] pos) (tCall sp [] C8.E0 t) := by
  obtain ⟨f, fd, qs, F, hm, kp, b⟩ := c.ex
  refine ⟨fun pins s σ H Q I h => wpAny_Call_Name_kw (ld_glob I gl hm ?_ hdb)⟩
  refine PySem.W.callWith_K (h₀ := X.base) I.ok.mod.kin kp (thn (ha.run pos pins s σ H _ I h) fun us s1 ⟨vs, H1, I1, r, q⟩ => ⟨I1.kIn, ?_⟩) he hpl
  have q2 : sp vs H1 Q C8.E0 := by
    have q3 : sp (vs ++ []) H1 Q C8.E0 := q
    rw [List.append_nil] at q3
    exact q3
  have hl : us.length = qs.length := by
    rw [← r.length]
    exact F.size _ _ _ _ q2
  have bb := b s1 us I1.kIn (by rw [List.append_nil]; exact hl)
  rw [List.append_nil] at bb
  refine wpAny_call (codeAny_mono (F.goes X.A X.stack s1 H1 ⟨us, []⟩ us vs Q C8.E0 hg (hr.mono hk) I1.env0 bb r q2) fun res s' hq => ?_)
  cases res with
  | error er => exact hq.elim
  | ok fl =>
    cases fl with
    | ret u => exact I1.after hq
    | next => exact hq.elim
    | brk => exact hq.elim
    | cont => exact hq.elim
/-- repr of data -/
def rReprD (K : PySem.W.Frag) : List V → Hp → VK → Prop := fun xs H Q => ∃ (v : V) (d : PyData), xs = [v] ∧ Dp K H v d ∧ d.showable = true ∧ d.hasDict = false ∧ d.depth ≤ 100 ∧ d.shown.length ≤ sizeLine ∧ Q (.str d.shown) H
theorem cr_reprD (hg : X.A.guards = some []) (hr : Room j X.A) : CallR X (.builtin "repr") (rReprD X.K) := by
  intro pins s σ H xs us Q I r h
  obtain ⟨v, d, rfl, hd, hs, hn, hp, hz, q⟩ := h
  cases r with
  | cons r1 rr =>
    cases rr
    have un := hr.un
    cases hd with
    | non =>
      cases (show _ = Value.none from r1)
      exact PySem.P.repr_of_none ⟨.str "None", H, I.tok _, ⟨_, rfl⟩, q⟩
    | bl b =>
      cases (show _ = Value.bool b from r1)
      exact PySem.P.repr_of_bool ⟨.str (PyData.shown (.bool b)), H, I.tok _, ⟨_, by cases b <;> rfl⟩, q⟩
    | int i =>
      obtain ⟨t, rfl⟩ := (show ∃ t, _ = Value.int i t from r1)
      exact PySem.P.repr_of_int (of_decide_eq_true hs) ⟨.str (PyData.shown (.int i)), H, I.tok _, ⟨_, rfl⟩, q⟩
    | str z =>
      obtain ⟨t, rfl⟩ := (show ∃ t, _ = Value.str z t from r1)
      exact PySem.P.repr_of_str ⟨.str (PyData.shown (.str z)), H, I.tok _, ⟨_, rfl⟩, q⟩ hz
    | lst h1 h2 =>
      rename_i a xs ds
      obtain rfl : _ = Value.ref a := r1
      obtain ⟨as, rd⟩ := Dp.reads I (.list ds) (.ref a) (.ref a) (.lst h1 h2) rfl
      exact repr_of_reads' rd hs (PyData.noDict_hsm hn) hg (by omega) (fun _ _ e => e) (fun h' u tk hk => ⟨.str _, H, I.kept (t' := tk) hk, ⟨_, rfl⟩, q⟩) hz
    | tup h1 h2 =>
      rename_i a xs ds
      obtain rfl : _ = Value.ref a := r1
      obtain ⟨as, rd⟩ := Dp.reads I (.tuple ds) (.ref a) (.ref a) (.tup h1 h2) rfl
      exact repr_of_reads' rd hs (PyData.noDict_hsm hn) hg (by omega) (fun _ _ e => e) (fun h' u tk hk => ⟨.str _, H, I.kept (t' := tk) hk, ⟨_, rfl⟩, q⟩) hz
end
/-! ### the end, for a law that makes texts of lists and tuples -/
section
variable {P : Program} {w : World} {K : PySem.W.Frag} {mg mb : Str → Option Value} {k : Nat} {fa a : Addr} {fd : FuncData} {x : Str} {sp : Sp} {s1 : Shared} {us : List Value} {ns : List Int}
/-- from a heap in which the script alone may be tracked -/
theorem end_from {H : Hp} (inK : K.In s1.heap) (nm : s1.heap.Ns mainGlobals mg) (nb : s1.heap.Ns builtinsNs mb) (bb : ∀ y : Str, y ≠ "__name__" → mb y = bootBuiltins y) (lim : s1.heap.NoLimit) (gs : s1.gens = #[])
    (at_ : s1.heap.get? a = some { cls := .type "list", data := .seq us.toArray }) (rm : Room k callerA)
    (F : ∀ base : Heap, K.In base → base.Ns mainGlobals mg → FnG P w K mg base k fa fd [x] sp) (bt : ∀ (s : Shared) (u : Value), BindsTo s fd ⟨[u], []⟩ [(x, u)])
    (hO : Only H) (want : sp [.ref a] H (fun v _ => v = .bl true) fun _ _ _ => False) (hok : HOk P w H s1.heap) (onlyA : ∀ b, H b ≠ none → b = a) (offK : H a ≠ none → K.lookup a = none) :
    codeAny (model P w) callerA (.call (.ref fa) ⟨[.ref a], []⟩) (fun r s' => r = .ok (.ret (.bool true)) ∧ OldK s1.heap s'.heap ∧ s'.os = s1.os ∧ AllBare s'.gens) s1 := by
  have untr : ∀ {b : Addr}, (b = a → False) → H b = none := fun {b} nb => by
    cases z : H b with
    | none => rfl
    | some u => exact (nb (onlyA b (by rw [z]; simp))).elim
  have stay : ∀ {b : Addr} {o : Obj}, s1.heap.get? b = some o → H b = none → (hidT s1.heap H).get? b = some o := fun e n => hidT_get e n
  have names : ∀ {b : Addr} {m : Str → Option Value}, s1.heap.Ns b m → (hidT s1.heap H).Ns b m := fun {b m} ⟨o, es, ep, e, d, r⟩ => ⟨o, es, ep, stay e (untr fun z => by
    subst z
    rw [at_] at e
    cases e
    have d2 : Data.seq us.toArray _ = Data.dict es ep := d
    cases d2), d, r⟩
  have inK2 : K.In (hidT s1.heap H) := fun b o e => stay (inK b o e) (by
    cases z : H b with
    | none => rfl
    | some u =>
      have e2 : b = a := onlyA b (by rw [z]; simp)
      subst e2
      rw [offK (by rw [z]; simp)] at e
      cases e)
  obtain ⟨mc, l1, l2⟩ := lim
  have start0 : Env0 P w K mg (hidT s1.heap H) callerA [] s1 H :=
    ⟨rfl, ⟨inK2, names nm, ⟨mb, names nb, bb⟩, ⟨mc, names l1, l2⟩⟩, fun b o e => of_hidT e, Nat.le_of_eq (hidT_size _ _), trivial, fun b hb => absurd (show b ∈ ([] : List Addr) from hb) (by simp), hok, .of_eq gs⟩
  refine codeAny_mono ((F _ inK2 (names nm)).goes callerA [] s1 H ⟨[.ref a], []⟩ [.ref a] [.ref a] _ _ rfl rm start0 (bt s1 (.ref a)) (.cons rfl .nil) want) fun out t hs => ?_
  cases out with
  | error er => exact hs.elim
  | ok fl =>
    cases fl with
    | ret u =>
      obtain ⟨v, H', os, bare, un, hok2, rv, z⟩ := hs
      have z2 : v = .bl true := z
      subst z2
      obtain rfl : u = Value.bool true := rv
      refine ⟨rfl, OldK.of_keep fun b o e => ?_, os, bare⟩
      cases z : H b with
      | none => exact un.keep b o e z (fun y => absurd (show b ∈ ([] : List Addr) from y) (by simp)) (by simp)
      | some h0 =>
        rcases hO b with y | ⟨ob, xs, y⟩
        · rw [z] at y
          cases y
        · obtain ⟨e1, _⟩ := hok b _ y
          obtain ⟨e2, _⟩ := hok2 b _ (un.frzs b ob _ y)
          rw [e] at e1
          cases e1
          exact e2
    | next => exact hs.elim
    | brk => exact hs.elim
    | cont => exact hs.elim
theorem end_call (inK : K.In s1.heap) (nm : s1.heap.Ns mainGlobals mg) (nb : s1.heap.Ns builtinsNs mb) (bb : ∀ y : Str, y ≠ "__name__" → mb y = bootBuiltins y) (lim : s1.heap.NoLimit) (gs : s1.gens = #[])
    (at_ : s1.heap.get? a = some { cls := .type "list", data := .seq us.toArray }) (hIn : IntsAre us ns) (fits : ns.length ≤ sizeLine) (rm : Room k callerA)
    (F : ∀ base : Heap, K.In base → base.Ns mainGlobals mg → FnG P w K mg base k fa fd [x] sp) (bt : ∀ (s : Shared) (u : Value), BindsTo s fd ⟨[u], []⟩ [(x, u)])
    (want : ∀ H : Hp, Only H → SqL K H a (ns.map V.int) → sp [.ref a] H (fun v _ => v = .bl true) fun _ _ _ => False) :
    codeAny (model P w) callerA (.call (.ref fa) ⟨[.ref a], []⟩) (fun r s' => r = .ok (.ret (.bool true)) ∧ OldK s1.heap s'.heap ∧ s'.os = s1.os ∧ AllBare s'.gens) s1 := by
  have rel := vals_ints hIn
  have len := hIn.length
  cases lk : K.lookup a with
  | some o =>
    have e := inK a o lk
    rw [at_] at e
    cases e
    have only0 : Only (fun _ => none) := fun _ => .inl rfl
    exact end_from (H := fun _ => none) inK nm nb bb lim gs at_ rm F bt only0 (want _ only0 (.inr ⟨_, us.toArray, _, lk, rfl, rfl, rfl, by rw [List.size_toArray, len]; exact fits, by simpa using rel⟩))
      (fun b u z => nomatch (show (none : Option HO) = some u from z)) (fun b z => absurd rfl z) fun z => absurd rfl z
  | none =>
    have pos : ∀ {b : Addr}, b = a → (if b = a then some (HO.frz { cls := .type "list", data := .seq us.toArray } (.lst (ns.map V.int))) else none) = some (.frz { cls := .type "list", data := .seq us.toArray } (.lst (ns.map V.int))) := fun e => if_pos e
    have only1 : Only (fun b => if b = a then some (.frz { cls := .type "list", data := .seq us.toArray } (.lst (ns.map V.int))) else none) := fun b => by
      by_cases e : b = a
      · exact .inr ⟨_, _, pos e⟩
      · exact .inl (if_neg e)
    refine end_from inK nm nb bb lim gs at_ rm F bt only1 (want _ only1 (.inl (.inr ⟨{ cls := .type "list", data := .seq us.toArray }, if_pos rfl⟩))) (fun b u z => ?_) (fun b z => ?_) fun _ => lk
    · by_cases e : b = a
      · have y := (pos e).symm.trans z
        cases y
        subst e
        exact ⟨at_, by rw [List.length_map]; exact fits, us, _, rel, at_⟩
      · have y := (if_neg e).symm.trans z
        cases y
    · by_cases e : b = a
      · exact e
      · exact absurd (if_neg e) z
end
theorem walk_ofG {l : PySem.W.OpenLaw} {n k : Nat} {q : Program} {loose : List Str} {XP : (Str → Option Value) → Heap → Prop} {YP : World → Heap → Prop} {d : DefRec} {K : Params → PySem.W.Frag} {sp : World → Sp} {x : Str}
    (hn : l.most = some n) (hn2 : n ≤ sizeLine) (hdf : d.params.defaults = []) (rm : Room k callerA) (inK : ∀ (w : World) (h : Heap), YP w h → (K w.params).In h)
    (F : ∀ (w : World) (mg : Str → Option Value) (fa : Addr) (h : Heap), (K w.params).In h → h.Ns mainGlobals mg → mg d.name = some (.ref fa) →
      ∃ fd : FuncData, (∀ (s : Shared) (u : Value), BindsTo s fd ⟨[u], []⟩ [(x, u)]) ∧ ∀ base : Heap, (K w.params).In base → base.Ns mainGlobals mg → FnG l.prog w (K w.params) mg base k fa fd [x] (sp w))
    (want : ∀ (w : World) (H : Hp) (a : Addr) (ns : List Int), ns.length ≤ n → Only H → SqL (K w.params) H a (ns.map V.int) → sp w [.ref a] H (fun v _ => v = .bl true) fun _ _ _ => False) :
    PySem.W.WalkO q loose XP YP l.row.toRowW d [] (fun f vs => PySem.call f vs) := by
  refine Att.attach_call hn hdf fun w s0 s1 mg mb fa o pm cd doc a us ns G Y ho hd hcd hmg hobj hints hlen hg => ?_
  obtain ⟨fd, bt, go⟩ := F w mg fa _ (inK w _ Y) G.T.g hmg
  exact end_call (inK w _ Y) G.T.g G.T.b G.T.builtins G.T.nolimit hg hobj hints (Nat.le_trans hlen hn2) rm go bt fun H hO hS => want w H a ns hlen hO hS
def top (i : Nat) : Stmt := PySem.Challenge.pw_threereckons_k14_what_trees_are.main.body.getD i (.Pass ⟨0, 0, 0, 0⟩)
def isLet (c : Nat) : Bool := decide (97 ≤ c) && decide (c ≤ 122)
def OWNL : List Nat := [111, 119, 110]
/-! ### the draws -/
abbrev s__law_take : Stmt := top 54
abbrev N__law_take : List Str := ["_law_box", "_law_many", "_law_found", "_law_once", "_law_twice"]
abbrev P__law_take : List Str := ["_law_box", "_law_many"]
theorem sc__law_take : FnScope N__law_take P__law_take (defScope s__law_take) := ⟨rfl, rfl, rfl, by decide +kernel, rfl, by decide +kernel, by decide +kernel⟩
abbrev s__law_dip : Stmt := top 53
abbrev N__law_dip : List Str := ["_law_script", "_law_k", "_law_cell"]
abbrev P__law_dip : List Str := ["_law_script", "_law_k"]
theorem sc__law_dip : FnScope N__law_dip P__law_dip (defScope s__law_dip) := ⟨rfl, rfl, rfl, by decide +kernel, rfl, by decide +kernel, by decide +kernel⟩
abbrev s__law_folded : Stmt := top 55
abbrev N__law_folded : List Str := ["_law_script", "_law_size", "_law_cells", "_law_k", "_law_cell"]
abbrev P__law_folded : List Str := ["_law_script", "_law_size"]
theorem sc__law_folded : FnScope N__law_folded P__law_folded (defScope s__law_folded) := ⟨rfl, rfl, rfl, by decide +kernel, rfl, by decide +kernel, by decide +kernel⟩
section
variable {P : Program} {w : World} {K : PySem.W.Frag} {mg : Str → Option Value} {base : Heap}
theorem ok_take (D : Dd K mg "_law_take" s__law_take P__law_take) : C8.Cal P w K mg base 1 "_law_take" spTake [] := by
  refine D.cal sc__law_take (fun vs H Q E h => ?_) (fun f cdv A outer s H vs Q E hr h => ?_)
  · obtain ⟨a, many, n, b, rfl, _⟩ := h
    rfl
  · obtain ⟨a, many, n, b, rfl, ha, ⟨b0, b1, b2, rfl, h0, h1, h1', h2, h2'⟩, hn, hm, hm', k⟩ := h
    refine ⟨_, (pss_cons (ps_if (pt_cmpR op_gt (pe_ix ix_list (pv 0) pe_int (fun _ _ => rfl)) pe_int (nomark _))
          (pss_cons (ps_set (i := 2) sc__law_take.nd rfl (Or.inl rfl) (pe_op op_mod (pe_ix ix_list (pv 0) pe_int (fun _ _ => rfl)) (pv 1)))
        (pss_cons (ps_asg (pe_op op_fdiv (pe_ix ix_list (pv 0) pe_int (fun _ _ => rfl)) (pv 1)) (pg_sub (pv 0) pe_int set_list))
        (pss_one (ps_ret (pv 2)))))
          pss_nil)
        (pss_cons (ps_asg (pe_op op_add (pe_ix ix_list (pv 0) pe_int (fun _ _ => rfl)) pe_int) (pg_sub (pv 0) pe_int set_list))
        (pss_cons (ps_set (i := 3) sc__law_take.nd rfl (Or.inl rfl) (pe_op op_mod (pe_op op_pow (pe_op op_add (pe_ix ix_list (pv 0) pe_int (fun _ _ => rfl)) (pe_op op_mul pe_int (pe_ix ix_list (pv 0) pe_int (fun _ _ => rfl)))) pe_int) pe_int))
        (pss_cons (ps_set (i := 4) sc__law_take.nd rfl (Or.inl rfl) (pe_op op_mod (pe_op op_mul (pe_op op_add (pe_op op_add (pv 3) (pe_ix ix_list (pv 0) pe_int (fun _ _ => rfl))) (pe_op op_fdiv (pe_ix ix_list (pv 0) pe_int (fun _ _ => rfl)) pe_int)) (pe_op op_add (pe_op op_add (pe_op op_mod (pv 3) pe_int) pe_int) (pe_ix ix_list (pv 0) pe_int (fun _ _ => rfl)))) pe_int))
        (pss_one (ps_ret (pe_op op_mod (pe_op op_fdiv (pe_op op_mod (pe_op op_add (pe_op op_mul (pv 4) pe_int) (pv 3)) pe_int) pe_int) (pv 1)))))))), ?_⟩
    have hL : SqL K H a [.int b0, .int b1, .int b2] := SqL.of ha
    refine ⟨_, rfl, a, _, 0, .int b0, rfl, rfl, hL, atI_nat (j := 0) rfl, _, _, rfl, rfl, _, rfl, ite2 (fun e => ?_) (fun e => ?_)⟩
    · have e0 : 0 < b0 := of_decide_eq_true e
      refine ⟨_, rfl, a, _, 0, .int b0, rfl, rfl, hL, atI_nat (j := 0) rfl, .int many, rfl, _, _, rfl, rfl, hm, ?_⟩
      refine ⟨_, rfl, a, _, 0, .int b0, rfl, rfl, hL, atI_nat (j := 0) rfl, .int many, rfl, _, _, rfl, rfl, ⟨hm, hm'⟩, ?_⟩
      refine ⟨_, rfl, a, _, 0, 0, rfl, rfl, ha, rfl, _, rfl, ?_⟩
      refine k (b0 % many) _ (Int.emod_nonneg _ (by omega)) (Int.emod_lt_of_pos _ hm) ⟨b0 / many, b1, b2, rfl, Int.ediv_nonneg h0 (by omega), h1, h1', h2, by omega⟩
    · refine ⟨_, rfl, a, _, 2, .int b2, rfl, rfl, hL, atI_nat (j := 2) rfl, _, _, rfl, rfl, _, rfl, a, _, 2, 2, rfl, rfl, ha, rfl, ?_⟩
      have hL2 : SqL K (upd H a (.lst [.int b0, .int b1, .int (b2 + 1)])) a [.int b0, .int b1, .int (b2 + 1)] := SqL.of upd_same
      refine ⟨_, rfl, a, _, 1, .int b1, rfl, rfl, hL2, atI_nat (j := 1) rfl, _, rfl, a, _, 2, .int (b2 + 1), rfl, rfl, hL2, atI_nat (j := 2) rfl, _, _, rfl, rfl, .inl ⟨by decide, by decide⟩, _, _, rfl, rfl, _, _, rfl, rfl,
        ⟨by decide, by decide, by omega⟩, _, _, rfl, rfl, (by show (0 : Int) < _; decide), ?_⟩
      have q : (b1 + 39373 * (b2 + 1)) ^ Int.toNat 5 % 2147483647 = (b1 + 39373 * (b2 + 1)) ^ Int.toNat 5 % 2147483647 := rfl
      generalize (b1 + 39373 * (b2 + 1)) ^ Int.toNat 5 = w5
      have g1 : 0 ≤ w5 % 2147483647 := Int.emod_nonneg _ (by decide)
      have g2 : w5 % 2147483647 < 2147483647 := Int.emod_lt_of_pos _ (by decide)
      have g3 : 0 ≤ b1 / 1000003 := Int.ediv_nonneg h1 (by decide)
      have g4 : b1 / 1000003 ≤ b1 := Int.ediv_le_self _ h1
      have g5 : 0 ≤ w5 % 2147483647 % 40009 := Int.emod_nonneg _ (by decide)
      have g6 : w5 % 2147483647 % 40009 < 40009 := Int.emod_lt_of_pos _ (by decide)
      refine ⟨_, rfl, _, rfl, a, _, 2, .int (b2 + 1), rfl, rfl, hL2, atI_nat (j := 2) rfl, _, _, rfl, rfl, _, rfl, a, _, 1, .int b1, rfl, rfl, hL2, atI_nat (j := 1) rfl, _, _, rfl, rfl, ⟨by decide, by decide⟩, _, _, rfl, rfl,
        _, rfl, _, _, rfl, rfl, (by show (0 : Int) < _; decide), _, _, rfl, rfl, _, rfl, a, _, 2, .int (b2 + 1), rfl, rfl, hL2, atI_nat (j := 2) rfl, _, _, rfl, rfl, _, _, rfl, rfl, .inl ⟨by omega, by omega⟩, _, _, rfl, rfl, (by show (0 : Int) < _; decide), ?_⟩
      generalize (w5 % 2147483647 + (b2 + 1) + b1 / 1000003) * (w5 % 2147483647 % 40009 + 7 + (b2 + 1)) = w6
      refine ⟨_, rfl, _, _, rfl, rfl, .inr ⟨by decide, by decide⟩, _, rfl, _, _, rfl, rfl, _, _, rfl, rfl, (by show (0 : Int) < _; decide), _, _, rfl, rfl, ⟨by decide, by decide⟩, .int many, rfl, _, _, rfl, rfl, hm, ?_⟩
      exact k _ _ (Int.emod_nonneg _ (by omega)) (Int.emod_lt_of_pos _ hm) ⟨b0, b1, b2 + 1, rfl, h0, h1, h1', by omega, by omega⟩
theorem b01 (b : Bool) : -(2 ^ 64) < (if b = true then (1 : Int) else 0) ∧ (if b = true then (1 : Int) else 0) < 2 ^ 64 := by cases b <;> decide
theorem dip_b0 (c : Int) (b : Bool) : 0 ≤ (if c < 0 then -c else c) * (if b = true then 1 else 0) := by
  cases b with
  | false => simp
  | true =>
    rw [if_pos rfl, Int.mul_one]
    split <;> omega
theorem ok_dip (B : Bt mg) (D : Dd K mg "_law_dip" s__law_dip P__law_dip) : C8.Cal P w K mg base 1 "_law_dip" (spDip K) [] := by
  refine D.cal sc__law_dip (fun vs H Q E h => ?_) (fun f cdv A outer s H vs Q E hr h => ?_)
  · obtain ⟨a, k, ns, rfl, _⟩ := h
    rfl
  · obtain ⟨a, k, ns, rfl, hS, hk, q⟩ := h
    have T := B
    refine ⟨_, (pss_cons (ps_set (i := 2) sc__law_dip.nd rfl (Or.inl rfl) (pe_ifExp (pt_cmpR op_lt (pv 1) (pe_callB call_len_seq (by rfl) T.len PySem.boot_len (pa_cons (pv 0) pa_nil)) (nomark _)) (pe_ix ix_list (pv 0) (pv 1) (fun _ _ => rfl)) pe_int))
        (pss_one (ps_ret (pe_lst (pa_cons (pe_op op_mul (pe_callB call_abs (by rfl) T.abs (by decide +kernel) (pa_cons (pv 2) pa_nil)) (pe_callTy call_int1 (by rfl) T.int (by decide +kernel) (pa_cons (pe_cmpR op_ge (pe_callB call_abs (by rfl) T.abs (by decide +kernel) (pa_cons (pv 2) pa_nil)) (pe_op op_pow pe_int pe_int) (nomark _)) pa_nil))) (pa_cons (pe_op op_add (pe_op op_add (pe_op op_mod (pv 2) pe_int) (pe_op op_mul pe_int (pv 1))) pe_int) (pa_cons pe_int pa_nil))))))), ?_⟩
    have rest : ∀ c : Int, (tRet (tLst (tCons (tOp (rI CMul fun i j => .int (i * j)) (tCB (fun xs H Q => ∃ i, xs = [.int i] ∧ Q (.int (if i < 0 then -i else i)) H) (tCons (tVar 2) tNil))
        (tCB (fun xs H Q => (∃ i, xs = [.int i] ∧ Q (.int i) H) ∨ ∃ k, xs = [.bl k] ∧ Q (.int (if k then 1 else 0)) H) (tCons (tOp (rI0 fun i j => .bl (decide (j ≤ i))) (tCB (fun xs H Q => ∃ i, xs = [.int i] ∧ Q (.int (if i < 0 then -i else i)) H) (tCons (tVar 2) tNil)) (tOp (rI CPow fun i j => .int (i ^ j.toNat)) (tC (.int 10)) (tC (.int 18)))) tNil)))
        (tCons (tOp (rI0 fun i j => .int (i + j)) (tOp (rI0 fun i j => .int (i + j)) (tOp (rI (fun _ j => 0 < j) fun i j => .int (i % j)) (tVar 2) (tC (.int 2305843009213693951))) (tOp (rI CMul fun i j => .int (i * j)) (tC (.int 39373)) (tVar 1))) (tC (.int 17))) (tCons (tC (.int 0)) tNil)))))
        { nx := fun _ H' => Q .non H', rt := Q } [some (.ref a), some (.int k), some (.int c)] H := fun c => by
      refine ⟨_, rfl, c, rfl, _, rfl, c, rfl, _, _, rfl, rfl, ⟨by decide, by decide, by decide⟩, _, _, rfl, rfl, .inr ⟨_, rfl, ?_⟩⟩
      refine ⟨_, _, rfl, rfl, .inr (b01 _), ?_⟩
      refine ⟨_, rfl, _, _, rfl, rfl, (by show (0 : Int) < _; decide), _, rfl, _, _, rfl, rfl, .inl ⟨by decide, by decide⟩, _, _, rfl, rfl, _, _, rfl, rfl, ?_⟩
      refine ⟨by show 3 ≤ sizeLine; decide, fun p hp => q p _ hp ⟨_, _, 0, rfl, dip_b0 c _, ?_, ?_, Int.le_refl _, Int.le_refl _⟩⟩
      · have := Int.emod_nonneg c (show (2305843009213693951 : Int) ≠ 0 by decide)
        omega
      · have := Int.emod_lt_of_pos c (show (0 : Int) < 2305843009213693951 by decide)
        omega
    refine ⟨_, rfl, _, rfl, a, _, rfl, .inl hS, _, _, rfl, rfl, _, rfl, ite2 (fun e => ?_) (fun e => ?_)⟩
    · have hlt : k < ns.length := by
        have := of_decide_eq_true e
        rw [List.length_map] at this
        omega
      have g : (ns.map V.int)[k]? = some (.int ns[k]) := by
        rw [List.getElem?_map, List.getElem?_eq_getElem hlt]
        rfl
      exact ⟨_, rfl, _, rfl, a, _, k, .int ns[k], rfl, rfl, hS, atI_nat g, rest _⟩
    · exact rest 0
theorem ixN_nat {n j : Nat} (h : j < n) : ixN n (j : Int) = some j := by
  unfold ixN
  rw [if_pos (by omega), if_pos (by omega)]
  simp
theorem ok_folded (B : Bt mg) (D : Dd K mg "_law_folded" s__law_folded P__law_folded) : C8.Cal P w K mg base 1 "_law_folded" (spFold K) [] := by
  refine D.cal sc__law_folded (fun vs H Q E h => ?_) (fun f cdv A outer s H vs Q E hr h => ?_)
  · obtain ⟨a, size, ns, rfl, _⟩ := h
    rfl
  · obtain ⟨a, size, ns, rfl, hS, hl, h1, h8, q⟩ := h
    have T := B
    refine ⟨_, (pss_cons (ps_set (i := 2) sc__law_folded.nd rfl (Or.inl rfl) (pe_callTy call_list_of (by rfl) T.list (by decide +kernel) (pa_cons (pe_slice sl_list (pv 0) po_none (po_some (pv 1))) pa_nil)))
        (pss_cons (ps_for PassesOwn.never rfl (pi_enum (by rfl) T.enumerate (pa_cons (pe_slice sl_list (pv 0) (po_some (pv 1)) (po_some pe_int)) pa_nil)) (pg_tup rfl (pgs_cons (pg_name (i := 3) sc__law_folded.nd rfl (Or.inl rfl)) (pgs_cons (pg_name (i := 4) sc__law_folded.nd rfl (Or.inl rfl)) pgs_nil)))
          (pss_one (ps_asg (pe_op op_add (pe_ix ix_list (pv 2) (pe_op op_mod (pv 3) (pv 1)) (fun _ _ => rfl)) (pe_op op_mul (pv 4) (pe_op op_add (pv 3) pe_int))) (pg_sub (pv 2) (pe_op op_mod (pv 3) (pv 1)) set_list))))
        (pss_one (ps_ret (pv 2))))), ?_⟩
    -- cells = list(script[:size])
    refine ⟨_, rfl, _, rfl, _, rfl, a, _, rfl, hS, fun c1 n1 => ⟨c1, _, rfl, .inl (SqL.of upd_same), fun l nl => ?_⟩⟩
    have s1 : Same H (upd H c1 (.lst (cutV (ns.map V.int) none (some (size : Int))))) := same_upd n1
    have s2 := s1.trans (same_upd (o := .lst (cutV (ns.map V.int) none (some (size : Int)))) nl)
    -- enumerate(script[size:63])
    refine ⟨_, rfl, _, rfl, _, rfl, _, rfl, a, _, rfl, s2.seq hS, fun c2 n2 => ⟨c2, _, rfl, SqL.of upd_same, ?_⟩⟩
    have nlc : l ≠ c2 := fun e => by
      rw [e] at n2
      rw [← e, upd_same] at n2
      cases n2
    refine for_it walk_enum (fun i σ H3 => ∃ y3 y4, ∃ ms : List Int, σ = [some (.ref a), some (.int size), some (.ref l), y3, y4] ∧ Same H H3 ∧ H3 c2 = some (.lst (cutV (ns.map V.int) (some (size : Int)) (some 63))) ∧ H3 l = some (.lst (ms.map V.int)) ∧ ms.length = min size ns.length)
      ⟨none, none, ns.take size, rfl, s2.trans (same_upd n2), upd_same, ?_, by rw [List.length_take]⟩ (fun i σ H3 _ ⟨_, _, _, _, _, hc, _⟩ => SqL.of hc) ?_ ?_
    · rw [upd_ne nlc, upd_same, cut_to]
    · rintro i v σ H3 H4 hi ⟨y3, y4, ms, rfl, sm, hc, hm, hml⟩ ⟨T, x, y, rfl, nT, rfl, ex, ey⟩
      cases ex
      obtain ⟨rs, ers, _⟩ := cut_ints ns (some (size : Int)) (some 63)
      have hsz : size ≤ ns.length := by
        apply Classical.byContradiction
        intro hh
        rw [cut_from_nil ns size (by omega)] at hi
        simp at hi
      have hms : ms.length = size := by omega
      rw [ers] at ey
      rw [ers, List.length_map] at hi
      have ey' : y = .int rs[i] := by
        replace ey : (List.map V.int rs)[i]? = some y := ey
        rw [List.getElem?_map, List.getElem?_eq_getElem hi] at ey
        exact (Option.some.inj ey).symm
      subst ey'
      have hi63 : i < 63 := by omega
      have nTl : l ≠ T := ne_of_none hm nT
      have nTc : c2 ≠ T := ne_of_none hc nT
      have hm' : (upd H3 T (.tup [.int (i : Nat), .int rs[i]])) l = some (.lst (ms.map V.int)) := by
        rw [upd_ne nTl]
        exact hm
      have hj : i % size < ms.length := by
        rw [hms]
        exact Nat.mod_lt _ (by omega)
      have g : (ms.map V.int)[i % size]? = some (.int ms[i % size]) := by
        rw [List.getElem?_map, List.getElem?_eq_getElem hj]
        rfl
      have ei : ((i : Nat) : Int) % ((size : Nat) : Int) = ((i % size : Nat) : Int) := by omega
      refine ⟨T, _, rfl, SqT.of upd_same, rfl, _, _, rfl, _, _, rfl, rfl, ?_⟩
      refine ⟨_, rfl, _, rfl, _, rfl, _, _, rfl, rfl, (by show (0 : Int) < _; omega), l, _, _, .int ms[i % size], rfl, rfl, SqL.of hm', ?_, ?_⟩
      · rw [ei]
        exact atI_nat g
      refine ⟨_, rfl, _, rfl, _, _, rfl, rfl, _, _, rfl, rfl, .inr ⟨by omega, by omega⟩, _, _, rfl, rfl, _, rfl, _, rfl, _, rfl, _, _, rfl, rfl, (by show (0 : Int) < _; omega), l, _, _, i % size, rfl, rfl, hm', ?_, ?_⟩
      · rw [ei, List.length_map]
        exact ixN_nat hj
      · refine ⟨_, _, ms.set (i % size) (ms[i % size] + rs[i] * ((i : Int) + 2)), rfl, fun b z e => ?_, ?_, ?_, by rw [List.length_set]; exact hml⟩
        · have nb : b ≠ l := by
            intro eb
            rw [eb] at e
            have e2 := s1 _ _ e
            rw [e2] at nl
            cases nl
          rw [upd_ne nb]
          exact same_upd nT _ _ (sm _ _ e)
        · rw [upd_ne nlc.symm, upd_ne nTc]
          exact hc
        · rw [upd_same, List.map_set]
    · rintro σ H3 ⟨y3, y4, ms, rfl, sm, hc, hm, hml⟩
      exact ⟨_, rfl, q H3 l ms sm (s1.free nl) hm (by omega)⟩
end
/-! ### own_copy, of data of any depth -/
abbrev s_own_copy : Stmt := top 5
abbrev N_own_copy : List Str := ["thing", "copied", "part"]
abbrev P_own_copy : List Str := ["thing"]
theorem sc_own_copy : FnScope N_own_copy P_own_copy (defScope s_own_copy) := ⟨rfl, rfl, rfl, by decide +kernel, rfl, by decide +kernel, by decide +kernel⟩
structure Ot (mg : Str → Option Value) : Prop where
  isinstance : mg "isinstance" = none
  list : mg "list" = none
  tuple : mg "tuple" = none
/-- data so deep at most, no list or tuple of more than 500 -/
inductive Sm : Nat → PyData → Prop where
  | non (n : Nat) : Sm n .none
  | bl (n : Nat) (b : Bool) : Sm n (.bool b)
  | int (n : Nat) (i : Int) : Sm n (.int i)
  | str (n : Nat) (x : Str) : Sm n (.str x)
  | lst (n : Nat) {ds : List PyData} (h : ds.length ≤ 500) (a : ∀ d ∈ ds, Sm n d) : Sm (n + 1) (.list ds)
  | tup (n : Nat) {ds : List PyData} (h : ds.length ≤ 500) (a : ∀ d ∈ ds, Sm n d) : Sm (n + 1) (.tuple ds)
section
variable {K : PySem.W.Frag} {H H' : Hp}
theorem Same.seqL {a : Addr} {xs : List V} (s : Same H H') (h : SqL K H a xs) : SqL K H' a xs := by
  rcases h with (h | ⟨o, h⟩) | h
  · exact .inl (.inl (s _ _ h))
  · exact .inl (.inr ⟨o, s _ _ h⟩)
  · exact .inr h
theorem Same.seqT {a : Addr} {xs : List V} (s : Same H H') (h : SqT K H a xs) : SqT K H' a xs := by
  rcases h with (h | ⟨o, h⟩) | h
  · exact .inl (.inl (s _ _ h))
  · exact .inl (.inr ⟨o, s _ _ h⟩)
  · exact .inr h
mutual
theorem dp_same (s : Same H H') : ∀ {v : V} {d : PyData}, Dp K H v d → Dp K H' v d
  | _, _, .non => .non
  | _, _, .bl b => .bl b
  | _, _, .int i => .int i
  | _, _, .str x => .str x
  | _, _, .lst h a => .lst (Same.seqL s h) (dpAll_same s a)
  | _, _, .tup h a => .tup (Same.seqT s h) (dpAll_same s a)
theorem dpAll_same (s : Same H H') : ∀ {vs : List V} {ds : List PyData}, DpAll K H vs ds → DpAll K H' vs ds
  | _, _, .nil => .nil
  | _, _, .cons h a => .cons (dp_same s h) (dpAll_same s a)
end
theorem dpAll_len : ∀ {vs : List V} {ds : List PyData}, DpAll K H vs ds → vs.length = ds.length
  | _, _, .nil => rfl
  | _, _, .cons _ a => by
    rw [List.length_cons, List.length_cons, dpAll_len a]
theorem dpAll_at : ∀ {vs : List V} {ds : List PyData}, DpAll K H vs ds → ∀ {i : Nat} {v : V}, vs[i]? = some v → ∃ d, ds[i]? = some d ∧ Dp K H v d
  | _, _, .cons h _, 0, _, e => ⟨_, rfl, by rw [← Option.some.inj e]; exact h⟩
  | _, _, .cons _ a, i + 1, _, e => dpAll_at a (i := i) e
theorem dpAll_snoc : ∀ {vs : List V} {ds : List PyData}, DpAll K H vs ds → ∀ {v : V} {d : PyData}, Dp K H v d → DpAll K H (vs ++ [v]) (ds ++ [d])
  | _, _, .nil, _, _, h => .cons h .nil
  | _, _, .cons h0 a, _, _, h => .cons h0 (dpAll_snoc a h)
theorem tyL {a : Addr} {xs : List V} (h : SqL K H a xs) : TyX K H (.ref a) (.type "list") := by
  rcases h with (h | ⟨o, h⟩) | ⟨o, its, n, l, c, _⟩
  · exact .base (.lst h)
  · exact .base (.frz h)
  · exact .kList l c
theorem tyT {a : Addr} {xs : List V} (h : SqT K H a xs) : TyX K H (.ref a) (.type "tuple") := by
  rcases h with (h | ⟨o, h⟩) | ⟨o, its, n, l, c, _⟩
  · exact .base (.tup h)
  · exact .fTuple h
  · exact .kTuple l c
theorem kitLT {t : String} {b : Bool} (h : kitB t "list" = some b) (h2 : b = false → kitB t "tuple" = some false) : PySem.W.kitAny K (.type t) [.type "list", .type "tuple"] = some b := by
  refine kitAny_cons (kit_ty h) (fun e => ?_) (fun e => e)
  rw [e]
  exact kitAny_cons (b := false) (kit_ty (h2 e)) (fun _ => kitAny_nil) (fun e => nomatch e)
end
/-- what is new in H', the address c left out -/
def Nw (H H' : Hp) : Hp := fun b => if H b = none then H' b else none
theorem Nw.sub {H H' : Hp} : Same (Nw H H') H' := fun b o e => by
  unfold Nw at e
  split at e
  · exact e
  · cases e
theorem Nw.mk {H H' : Hp} {b : Addr} {o : HO} (h : H b = none) (e : H' b = some o) : Nw H H' b = some o := by
  unfold Nw
  rw [if_pos h]
  exact e
theorem Nw.get {H H' : Hp} {b : Addr} {o : HO} (h : Nw H H' b = some o) : H b = none ∧ H' b = some o := by
  unfold Nw at h
  split at h
  · exact ⟨by assumption, h⟩
  · cases h
theorem kitLT2 {K : PySem.W.Frag} : PySem.W.kitAny K (.type "tuple") [.type "list", .type "tuple"] = some true :=
  kitAny_cons (b := false) (kit_ty (by decide +kernel)) (fun _ => kitAny_cons (b := true) (kit_ty (by decide +kernel)) (fun e => nomatch e) (fun _ => rfl)) (fun e => nomatch e)
def spOwnD (K : PySem.W.Frag) (n : Nat) : Sp := fun vs H Q _ => ∃ (x : V) (d : PyData), vs = [x] ∧ Dp K H x d ∧ Sm n d ∧ ∀ (H' : Hp) (y : V), Same H H' → Dp K (Nw H H') y d → Q y H'
section
variable {P : Program} {w : World} {K : PySem.W.Frag} {mg : Str → Option Value} {base : Heap}
theorem own_flat (T : Ot mg) (f : Addr) (cdv : Value) (A : Around) (outer : List Env) (s : Shared) (H : Hp) (Q : VK) (E : XK) {x : V} {t : String} (ty : ∀ H', TyX K H' x (.type t)) (k1 : kitB t "list" = some false) (k2 : kitB t "tuple" = some false) (q : ∀ H', Same H H' → Q x H') :
    ∃ t, PSs (cxOf CX0 P w K mg base N_own_copy "own_copy" (defScope s_own_copy) f cdv A outer s H E).nox (defBody s_own_copy) t ∧ t { nx := fun _ H' => Q .non H', rt := Q } (start N_own_copy [x]) H := by
  refine ⟨_, (pss_cons (ps_if (pt_not (pt_val (pe_callB call_isiT (by rfl) T.isinstance (by decide +kernel) (pa_cons (pv 0) (pa_cons (pe_tup (pa_cons (pe_bltn (v := .ty "list") rfl T.list (by decide +kernel) rfl) (pa_cons (pe_bltn (v := .ty "tuple") rfl T.tuple (by decide +kernel) rfl) pa_nil))) pa_nil)))))
      (pss_one (ps_ret (pv 0))) pss_nil) (pss_cons ps_never (pss_cons ps_never (pss_cons ps_never (pss_one ps_never))))), ?_⟩
  refine ⟨_, rfl, by show 2 ≤ sizeLine; decide, fun tp nt => ?_⟩
  refine ⟨x, tp, _, .type t, [.type "list", .type "tuple"], false, rfl, upd_same, .cons (.ty "list") (.cons (.ty "tuple") .nil), ty _, kitLT k1 (fun _ => k2), _, rfl, ?_⟩
  exact iteT ⟨_, rfl, q _ (same_upd nt)⟩
theorem ok_ownD (T : Ot mg) (D : Dd K mg "own_copy" s_own_copy P_own_copy) : ∀ n, C8.Cal P w K mg base (n + 1) "own_copy" (spOwnD K n) [] := by
  intro n
  induction n with
  | zero =>
    refine D.cal sc_own_copy (fun vs H Q E h => ?_) (fun f cdv A outer s H vs Q E hr h => ?_)
    · obtain ⟨x, d, rfl, _⟩ := h
      rfl
    · obtain ⟨x, d, rfl, hx, hs, q⟩ := h
      cases hs with
      | non => cases hx; exact own_flat T f cdv A outer s H Q E (fun _ => .base .non) (by decide +kernel) (by decide +kernel) fun H' e => q H' _ e .non
      | bl _ b => cases hx; exact own_flat T f cdv A outer s H Q E (fun _ => .base (.bl b)) (by decide +kernel) (by decide +kernel) fun H' e => q H' _ e (.bl b)
      | int _ i => cases hx; exact own_flat T f cdv A outer s H Q E (fun _ => .base (.int i)) (by decide +kernel) (by decide +kernel) fun H' e => q H' _ e (.int i)
      | str _ z => cases hx; exact own_flat T f cdv A outer s H Q E (fun _ => .base (.str z)) (by decide +kernel) (by decide +kernel) fun H' e => q H' _ e (.str z)
  | succ n cown_copy =>
    refine D.cal sc_own_copy (fun vs H Q E h => ?_) (fun f cdv A outer s H vs Q E hr h => ?_)
    · obtain ⟨x, d, rfl, _⟩ := h
      rfl
    · obtain ⟨x, d, rfl, hx, hs, q⟩ := h
      cases hs with
      | non => cases hx; exact own_flat T f cdv A outer s H Q E (fun _ => .base .non) (by decide +kernel) (by decide +kernel) fun H' e => q H' _ e .non
      | bl _ b => cases hx; exact own_flat T f cdv A outer s H Q E (fun _ => .base (.bl b)) (by decide +kernel) (by decide +kernel) fun H' e => q H' _ e (.bl b)
      | int _ i => cases hx; exact own_flat T f cdv A outer s H Q E (fun _ => .base (.int i)) (by decide +kernel) (by decide +kernel) fun H' e => q H' _ e (.int i)
      | str _ z => cases hx; exact own_flat T f cdv A outer s H Q E (fun _ => .base (.str z)) (by decide +kernel) (by decide +kernel) fun H' e => q H' _ e (.str z)
      | lst _ hlen hall =>
        rename_i ds
        cases hx with
        | lst hS hd =>
          rename_i a xs
          refine ⟨_, (pss_cons (ps_if (pt_not (pt_val (pe_callB call_isiT (by rfl) T.isinstance (by decide +kernel) (pa_cons (pv 0) (pa_cons (pe_tup (pa_cons (pe_bltn (v := .ty "list") rfl T.list (by decide +kernel) rfl) (pa_cons (pe_bltn (v := .ty "tuple") rfl T.tuple (by decide +kernel) rfl) pa_nil))) pa_nil)))))
                (pss_one (ps_ret (pv 0)))
                pss_nil)
              (pss_cons (ps_set (i := 1) sc_own_copy.nd rfl (Or.inl rfl) (pe_lst pa_nil))
              (pss_cons (ps_for PassesOwn.never rfl (pi_list (pv 0)) (pg_name (i := 2) sc_own_copy.nd rfl (Or.inl rfl))
                (pss_one (ps_expr (pe_bm PySem.F.plainAttrs_list PySem.F.slot_list_append PySem.F.type_list_append mt_append (pv 1) (pa_cons (C8.pe_c cown_copy hr (by omega) (by rfl) (pa_cons (pv 2) pa_nil)) pa_nil)))))
              (pss_cons (ps_if (pt_val (pe_callB call_isi (by rfl) T.isinstance (by decide +kernel) (pa_cons (pv 0) (pa_cons (pe_bltn (v := .ty "tuple") rfl T.tuple (by decide +kernel) rfl) pa_nil))))
                (pss_one (ps_ret (pe_callTy call_tuple_of (by rfl) T.tuple (by decide +kernel) (pa_cons (pv 1) pa_nil))))
                pss_nil)
              (pss_one (ps_ret (pv 1))))))), ?_⟩
          have lx := dpAll_len hd
          refine ⟨_, rfl, by show 2 ≤ sizeLine; decide, fun tp nt => ?_⟩
          have s1 := same_upd (o := .tup [.ty "list", .ty "tuple"]) nt
          refine ⟨.ref a, tp, _, .type "list", [.type "list", .type "tuple"], true, rfl, upd_same, .cons (.ty "list") (.cons (.ty "tuple") .nil), tyL (Same.seqL s1 hS), kitLT (by decide +kernel) (fun e => nomatch e), _, rfl, iteF ?_⟩
          refine ⟨by show 0 ≤ sizeLine; decide, fun c nc => ?_⟩
          have s2 := s1.trans (same_upd (o := .lst []) nc)
          have nc0 : H c = none := s1.free nc
          refine ⟨_, rfl, a, rfl, ⟨_, Same.seqL s2 hS⟩, for_list (K := K) (a := a) (xs := xs) (fun i σ H3 => ∃ y2 ys, σ = [some (.ref a), some (.ref c), y2] ∧ Same H H3 ∧ H3 c = some (.lst ys) ∧ DpAll K (Nw (upd H c (.lst [])) H3) ys (ds.take i) ∧ i ≤ ds.length)
            ⟨none, [], rfl, s2, upd_same, .nil, by omega⟩ (fun i σ H3 _ ⟨_, _, _, s3, _⟩ => Same.seqL s3 hS) ?_ ?_⟩
          · rintro i x σ H3 hxi ⟨y2, ys, rfl, s3, hc, hys, hi⟩
            obtain ⟨d, hdi, hdp⟩ := dpAll_at hd hxi
            have hi2 : i < ds.length := (List.getElem?_eq_some_iff.mp hdi).1
            have ly := dpAll_len hys
            rw [List.length_take] at ly
            refine ⟨_, rfl, .inl ⟨rfl, _, SqL.of hc⟩, _, rfl, x, d, rfl, dp_same s3 hdp, hall d (List.mem_of_getElem? hdi), fun H4 y s4 hy => ?_⟩
            refine ⟨c, ys, y, rfl, rfl, s4 _ _ hc, small1000 (by omega), ?_⟩
            refine ⟨_, ys ++ [y], rfl, fun b o e => ?_, upd_same, ?_, by omega⟩
            · rw [upd_ne (ne_of_none e nc0)]
              exact s4 _ _ (s3 _ _ e)
            · rw [List.take_add_one, hdi]
              refine dpAll_snoc (dpAll_same (fun b o e => ?_) hys) (dp_same (fun b o e => ?_) hy)
              · obtain ⟨e1, e2⟩ := Nw.get e
                have nb : b ≠ c := fun z => by
                  rw [z, upd_same] at e1
                  cases e1
                exact Nw.mk e1 (by rw [upd_ne nb]; exact s4 _ _ e2)
              · obtain ⟨e1, e2⟩ := Nw.get e
                have nb : b ≠ c := fun z => by
                  rw [z, hc] at e1
                  cases e1
                exact Nw.mk (by rw [upd_ne nb]; exact s3.free e1) (by rw [upd_ne nb]; exact e2)
          · rintro σ H3 ⟨y2, ys, rfl, s3, hc, hys, _⟩
            rw [lx, List.take_length] at hys
            have toN : ∀ H5, Same H3 H5 → Same (Nw (upd H c (.lst [])) H3) (Nw H H5) := fun H5 s5 b o e => by
              obtain ⟨e1, e2⟩ := Nw.get e
              have nb : b ≠ c := fun z => by
                rw [z, upd_same] at e1
                cases e1
              rw [upd_ne nb] at e1
              exact Nw.mk e1 (s5 _ _ e2)
            refine ⟨_, rfl, .ref a, .ty "tuple", .type "list", .type "tuple", false, rfl, .ty "tuple", tyL (Same.seqL s3 hS), kit_ty (by decide +kernel), _, rfl, iteF ?_⟩
            exact ⟨_, rfl, q _ _ s3 (.lst (SqL.of (Nw.mk nc0 hc)) (dpAll_same (toN _ (Same.refl _)) hys))⟩
      | tup _ hlen hall =>
        rename_i ds
        cases hx with
        | tup hS hd =>
          rename_i a xs
          refine ⟨_, (pss_cons (ps_if (pt_not (pt_val (pe_callB call_isiT (by rfl) T.isinstance (by decide +kernel) (pa_cons (pv 0) (pa_cons (pe_tup (pa_cons (pe_bltn (v := .ty "list") rfl T.list (by decide +kernel) rfl) (pa_cons (pe_bltn (v := .ty "tuple") rfl T.tuple (by decide +kernel) rfl) pa_nil))) pa_nil)))))
                (pss_one (ps_ret (pv 0)))
                pss_nil)
              (pss_cons (ps_set (i := 1) sc_own_copy.nd rfl (Or.inl rfl) (pe_lst pa_nil))
              (pss_cons (ps_for PassesOwn.never rfl (pi_tup (pv 0)) (pg_name (i := 2) sc_own_copy.nd rfl (Or.inl rfl))
                (pss_one (ps_expr (pe_bm PySem.F.plainAttrs_list PySem.F.slot_list_append PySem.F.type_list_append mt_append (pv 1) (pa_cons (C8.pe_c cown_copy hr (by omega) (by rfl) (pa_cons (pv 2) pa_nil)) pa_nil)))))
              (pss_cons (ps_if (pt_val (pe_callB call_isi (by rfl) T.isinstance (by decide +kernel) (pa_cons (pv 0) (pa_cons (pe_bltn (v := .ty "tuple") rfl T.tuple (by decide +kernel) rfl) pa_nil))))
                (pss_one (ps_ret (pe_callTy call_tuple_of (by rfl) T.tuple (by decide +kernel) (pa_cons (pv 1) pa_nil))))
                pss_nil)
              (pss_one (ps_ret (pv 1))))))), ?_⟩
          have lx := dpAll_len hd
          refine ⟨_, rfl, by show 2 ≤ sizeLine; decide, fun tp nt => ?_⟩
          have s1 := same_upd (o := .tup [.ty "list", .ty "tuple"]) nt
          refine ⟨.ref a, tp, _, .type "tuple", [.type "list", .type "tuple"], true, rfl, upd_same, .cons (.ty "list") (.cons (.ty "tuple") .nil), tyT (Same.seqT s1 hS), kitLT2, _, rfl, iteF ?_⟩
          refine ⟨by show 0 ≤ sizeLine; decide, fun c nc => ?_⟩
          have s2 := s1.trans (same_upd (o := .lst []) nc)
          have nc0 : H c = none := s1.free nc
          refine ⟨_, rfl, a, rfl, ⟨_, Same.seqT s2 hS⟩, for_tup (K := K) (a := a) (xs := xs) (fun i σ H3 => ∃ y2 ys, σ = [some (.ref a), some (.ref c), y2] ∧ Same H H3 ∧ H3 c = some (.lst ys) ∧ DpAll K (Nw (upd H c (.lst [])) H3) ys (ds.take i) ∧ i ≤ ds.length)
            ⟨none, [], rfl, s2, upd_same, .nil, by omega⟩ (fun i σ H3 _ ⟨_, _, _, s3, _⟩ => Same.seqT s3 hS) ?_ ?_⟩
          · rintro i x σ H3 hxi ⟨y2, ys, rfl, s3, hc, hys, hi⟩
            obtain ⟨d, hdi, hdp⟩ := dpAll_at hd hxi
            have hi2 : i < ds.length := (List.getElem?_eq_some_iff.mp hdi).1
            have ly := dpAll_len hys
            rw [List.length_take] at ly
            refine ⟨_, rfl, .inl ⟨rfl, _, SqL.of hc⟩, _, rfl, x, d, rfl, dp_same s3 hdp, hall d (List.mem_of_getElem? hdi), fun H4 y s4 hy => ?_⟩
            refine ⟨c, ys, y, rfl, rfl, s4 _ _ hc, small1000 (by omega), ?_⟩
            refine ⟨_, ys ++ [y], rfl, fun b o e => ?_, upd_same, ?_, by omega⟩
            · rw [upd_ne (ne_of_none e nc0)]
              exact s4 _ _ (s3 _ _ e)
            · rw [List.take_add_one, hdi]
              refine dpAll_snoc (dpAll_same (fun b o e => ?_) hys) (dp_same (fun b o e => ?_) hy)
              · obtain ⟨e1, e2⟩ := Nw.get e
                have nb : b ≠ c := fun z => by
                  rw [z, upd_same] at e1
                  cases e1
                exact Nw.mk e1 (by rw [upd_ne nb]; exact s4 _ _ e2)
              · obtain ⟨e1, e2⟩ := Nw.get e
                have nb : b ≠ c := fun z => by
                  rw [z, hc] at e1
                  cases e1
                exact Nw.mk (by rw [upd_ne nb]; exact s3.free e1) (by rw [upd_ne nb]; exact e2)
          · rintro σ H3 ⟨y2, ys, rfl, s3, hc, hys, _⟩
            rw [lx, List.take_length] at hys
            have toN : ∀ H5, Same H3 H5 → Same (Nw (upd H c (.lst [])) H3) (Nw H H5) := fun H5 s5 b o e => by
              obtain ⟨e1, e2⟩ := Nw.get e
              have nb : b ≠ c := fun z => by
                rw [z, upd_same] at e1
                cases e1
              rw [upd_ne nb] at e1
              exact Nw.mk e1 (s5 _ _ e2)
            refine ⟨_, rfl, .ref a, .ty "tuple", .type "tuple", .type "tuple", true, rfl, .ty "tuple", tyT (Same.seqT s3 hS), kit_ty (by decide +kernel), _, rfl, iteT ?_⟩
            refine ⟨_, rfl, c, ys, rfl, .inl ⟨SqL.of hc, fun l nl => ?_⟩⟩
            exact q _ _ (s3.trans (same_upd nl)) (.tup (SqT.of (Nw.mk (s3.free nl) upd_same)) (dpAll_same (toN _ (same_upd nl)) hys))
end
/-! ### what is drawn: one of some, some in another order, numbers -/
theorem ifT {c : Bool} {A B : Prop} (h : c = true) (x : A) : if c = true then A else B := by rw [if_pos h]; exact x
theorem ifF {c : Bool} {A B : Prop} (h : c = false) (x : B) : if c = true then A else B := by rw [if_neg (by rw [h]; decide)]; exact x
theorem yesT {σ : L2.St} {H : Hp} {A B : Hp → Prop} (h : A H) : tYes σ H (fun b H3 => if b = true then A H3 else B H3) := by
  show (if true = true then A H else B H)
  exact iteT h
theorem Same.at_ {H0 H : Hp} {p : Addr} {o : HO} (s : Same H0 H) (n : H0 p = none) : Same H0 (upd H p o) := fun b x e => by
  rw [upd_ne (ne_of_none e n)]
  exact s b x e
theorem Same.new {H0 H : Hp} {p : Addr} {o : HO} (s : Same H0 H) (n : H p = none) : Same H0 (upd H p o) := s.trans (same_upd n)
theorem Same.but {H0 H H' : Hp} {a : Addr} (s : Same H0 H) (n : H0 a = none) (b : But a H H') : Same H0 H' := fun x o e => b x o (ne_of_none e n) (s x o e)
theorem BoxL.mono {n m : Nat} {b : List V} (h : BoxL n b) (l : n ≤ m) : BoxL m b := by
  obtain ⟨b0, b1, b2, e, h0, h1, h2, h3, h4⟩ := h
  exact ⟨b0, b1, b2, e, h0, h1, h2, h3, by omega⟩
theorem But.free {a b : Addr} {H H' : Hp} {o : HO} (x : But a H H') (ha : H' a = some o) (h : H' b = none) : H b = none := by
  cases e : H b with
  | none => rfl
  | some u =>
    by_cases z : b = a
    · rw [z, ha] at h
      cases h
    · rw [x b u z e] at h
      cases h
abbrev s__law_one_of : Stmt := top 56
abbrev N__law_one_of : List Str := ["_law_box", "_law_some"]
abbrev P__law_one_of : List Str := ["_law_box", "_law_some"]
theorem sc__law_one_of : FnScope N__law_one_of P__law_one_of (defScope s__law_one_of) := ⟨rfl, rfl, rfl, by decide +kernel, rfl, by decide +kernel, by decide +kernel⟩
abbrev s__law_strewn : Stmt := top 57
abbrev N__law_strewn : List Str := ["_law_box", "_law_some", "_law_found", "_law_one"]
abbrev P__law_strewn : List Str := ["_law_box", "_law_some"]
theorem sc__law_strewn : FnScope N__law_strewn P__law_strewn (defScope s__law_strewn) := ⟨rfl, rfl, rfl, by decide +kernel, rfl, by decide +kernel, by decide +kernel⟩
abbrev s__law_number : Stmt := top 59
abbrev N__law_number : List Str := ["_law_box"]
abbrev P__law_number : List Str := ["_law_box"]
theorem sc__law_number : FnScope N__law_number P__law_number (defScope s__law_number) := ⟨rfl, rfl, rfl, by decide +kernel, rfl, by decide +kernel, by decide +kernel⟩
def spOneOf (K : PySem.W.Frag) : Sp := fun vs H Q _ => ∃ (a sl : Addr) (m : Nat) (b xs : List V), vs = [.ref a, .ref sl] ∧ H a = some (.lst b) ∧ BoxL m b ∧ m < 900000 ∧ SqL K H sl xs ∧ sl ≠ a ∧ 0 < xs.length ∧ xs.length ≤ 1000 ∧
  ∀ (i : Nat) (v : V) (b' : List V), xs[i]? = some v → BoxL (m + 1) b' → Q v (upd H a (.lst b'))
def spStrewn (K : PySem.W.Frag) : Sp := fun vs H Q _ => ∃ (a sl : Addr) (m : Nat) (b xs : List V), vs = [.ref a, .ref sl] ∧ H a = some (.lst b) ∧ BoxL m b ∧ m + xs.length < 900000 ∧ SqL K H sl xs ∧ sl ≠ a ∧ xs.length ≤ 100000 ∧
  ∀ (H' : Hp) (l : Addr) (ys b' : List V), But a H H' → H l = none → H' l = some (.lst ys) → ys.Perm xs → H' a = some (.lst b') → BoxL (m + xs.length) b' → Q (.ref l) H'
def spNumber : Sp := fun vs H Q _ => ∃ (a : Addr) (m : Nat) (b : List V), vs = [.ref a] ∧ H a = some (.lst b) ∧ BoxL m b ∧ m + 4 < 900000 ∧
  ∀ (H' : Hp) (r : Int) (b' : List V), But a H H' → H' a = some (.lst b') → BoxL (m + 4) b' → 0 ≤ r → r < 1000000 → Q (.int r) H'
section
variable {P : Program} {w : World} {K : PySem.W.Frag} {mg : Str → Option Value} {base : Heap}
theorem ok_one_of (T : Bt mg) (c_law_take : C8.Cal P w K mg base 1 "_law_take" spTake []) (D : Dd K mg "_law_one_of" s__law_one_of P__law_one_of) : C8.Cal P w K mg base 2 "_law_one_of" (spOneOf K) [] := by
  refine D.cal sc__law_one_of (fun vs H Q E h => ?_) (fun f cdv A outer s H vs Q E hr h => ?_)
  · obtain ⟨a, sl, m, b, xs, rfl, _⟩ := h
    rfl
  · obtain ⟨a, sl, m, b, xs, rfl, ha, hB, hm, hS, ns, h0, h1, q⟩ := h
    refine ⟨_, (pss_one (ps_ret (pe_ix ix_list (pv 1) (C8.pe_c c_law_take hr (by decide) (by rfl) (pa_cons (pv 0) (pa_cons (pe_callB call_len_seq (by rfl) T.len PySem.boot_len (pa_cons (pv 1) pa_nil)) pa_nil))) (fun _ _ => rfl)))), ?_⟩
    refine ⟨_, rfl, _, rfl, _, rfl, sl, xs, rfl, .inl hS, a, xs.length, m, b, rfl, ha, hB, by omega, by omega, by omega, fun r b' r0 r1 hB' => ?_⟩
    obtain ⟨i, rfl⟩ : ∃ i : Nat, r = (i : Int) := ⟨r.toNat, by omega⟩
    have hi : i < xs.length := by omega
    exact ⟨sl, xs, _, xs[i], rfl, rfl, But.seq (But.upd (But.refl a H)) ns hS, atI_nat (j := i) (by simp [hi]), q i _ b' (by simp [hi]) hB'⟩
theorem ok_strewn (T : Bt mg) (c_law_take : C8.Cal P w K mg base 1 "_law_take" spTake []) (D : Dd K mg "_law_strewn" s__law_strewn P__law_strewn) : C8.Cal P w K mg base 2 "_law_strewn" (spStrewn K) [] := by
  refine D.cal sc__law_strewn (fun vs H Q E h => ?_) (fun f cdv A outer s H vs Q E hr h => ?_)
  · obtain ⟨a, sl, m, b, xs, rfl, _⟩ := h
    rfl
  · obtain ⟨a, sl, m, b, xs, rfl, ha, hB, hm, hS, ns, h1, q⟩ := h
    refine ⟨_, (pss_cons (ps_set (i := 2) sc__law_strewn.nd rfl (Or.inl rfl) (pe_lst pa_nil))
        (pss_cons (ps_for PassesOwn.never rfl (pi_list (pv 1)) (pg_name (i := 3) sc__law_strewn.nd rfl (Or.inl rfl))
          (pss_one (ps_expr (pe_bm PySem.F.plainAttrs_list PySem.F.slot_list_insert PySem.F.type_list_insert mt_insert (pv 2) (pa_cons (C8.pe_c c_law_take hr (by decide) (by rfl) (pa_cons (pv 0) (pa_cons (pe_op op_add (pe_callB call_len_seq (by rfl) T.len PySem.boot_len (pa_cons (pv 2) pa_nil)) pe_int) pa_nil))) (pa_cons (pv 3) pa_nil))))))
        (pss_one (ps_ret (pv 2))))), ?_⟩
    refine ⟨by show 0 ≤ sizeLine; decide, fun l nl => ?_⟩
    have nla : a ≠ l := ne_of_none ha nl
    have s1 := same_upd (o := .lst []) nl
    refine ⟨_, rfl, sl, rfl, ⟨_, (But.seq (a := a) (But.of s1) ns hS)⟩, for_list (K := K) (a := sl) (xs := xs) (fun i σ H3 => ∃ y ys b', σ = [some (.ref a), some (.ref sl), some (.ref l), y] ∧ But a H H3 ∧ H3 l = some (.lst ys) ∧ ys.Perm (xs.take i) ∧ H3 a = some (.lst b') ∧ BoxL (m + i) b' ∧ SqL K H3 sl xs ∧ i ≤ xs.length)
      ⟨none, [], b, rfl, But.of s1, upd_same, .nil, s1 _ _ ha, hB, (But.seq (a := a) (But.of s1) ns hS), Nat.zero_le _⟩ (fun i σ H3 _ ⟨_, _, _, _, _, _, _, _, _, h, _⟩ => h) ?_ ?_⟩
    · rintro i x σ H3 hx ⟨y, ys, b', rfl, bt, hl, hp, hb', hB', hS3, hi⟩
      have hi2 : i < xs.length := (List.getElem?_eq_some_iff.mp hx).1
      have ly : ys.length = i := by
        rw [hp.length_eq, List.length_take]
        omega
      refine ⟨_, rfl, .inl ⟨rfl, _, SqL.of hl⟩, _, rfl, _, rfl, l, ys, rfl, .inl (SqL.of hl), _, _, rfl, rfl, a, _, _, b', rfl, hb', hB', by omega, by omega, by omega, fun r b2 r0 r1 hB2 => ?_⟩
      have hl2 : (upd H3 a (.lst b2)) l = some (.lst ys) := by
        rw [upd_ne nla.symm]
        exact hl
      refine ⟨_, rfl, l, ys, r, x, rfl, rfl, hl2, by rw [ly]; exact Nat.lt_of_le_of_lt (Nat.le_of_lt hi2) (Nat.lt_of_le_of_lt h1 (by decide)), r0, by omega, ?_⟩
      have bt2 : But a H (upd (upd H3 a (.lst b2)) l (.lst (ys.take r.toNat ++ [x] ++ ys.drop r.toNat))) := fun c o nc hc => by
        rw [upd_ne (ne_of_none hc nl), upd_ne nc]
        exact bt _ _ nc hc
      refine ⟨_, _, b2, rfl, bt2, upd_same, ?_, by rw [upd_ne nla, upd_same], hB2, But.seq bt2 ns hS, by omega⟩
      rw [List.take_add_one, hx]
      refine List.Perm.trans ?_ (List.Perm.append hp (List.Perm.refl [x]))
      rw [List.append_assoc]
      refine List.Perm.trans (List.Perm.append_left _ List.perm_append_comm) ?_
      rw [← List.append_assoc, List.take_append_drop]
    · rintro σ H3 ⟨y, ys, b', rfl, bt, hl, hp, hb', hB', hS3, hi⟩
      rw [List.take_length] at hp
      exact ⟨_, rfl, q _ l ys b' bt nl hl hp hb' hB'⟩
theorem ok_number (c_law_take : C8.Cal P w K mg base 1 "_law_take" spTake []) (D : Dd K mg "_law_number" s__law_number P__law_number) : C8.Cal P w K mg base 2 "_law_number" spNumber [] := by
  refine D.cal sc__law_number (fun vs H Q E h => ?_) (fun f cdv A outer s H vs Q E hr h => ?_)
  · obtain ⟨a, m, b, rfl, _⟩ := h
    rfl
  · obtain ⟨a, m, b, rfl, ha, hB, hm, q⟩ := h
    refine ⟨_, (pss_one (ps_ret (pe_ix ix_list (pe_lst (pa_cons (C8.pe_c c_law_take hr (by decide) (by rfl) (pa_cons (pv 0) (pa_cons pe_int pa_nil))) (pa_cons (C8.pe_c c_law_take hr (by decide) (by rfl) (pa_cons (pv 0) (pa_cons pe_int pa_nil))) (pa_cons (C8.pe_c c_law_take hr (by decide) (by rfl) (pa_cons (pv 0) (pa_cons (pe_op op_pow pe_int pe_int) pa_nil))) pa_nil)))) (C8.pe_c c_law_take hr (by decide) (by rfl) (pa_cons (pv 0) (pa_cons pe_int pa_nil))) (fun _ _ => rfl)))), ?_⟩
    refine ⟨_, rfl, a, 4, m, b, rfl, ha, hB, by omega, by decide, by decide, fun r1 b1 r10 r11 hB1 => ?_⟩
    refine ⟨_, rfl, a, 30, m + 1, b1, rfl, upd_same, hB1, by omega, by decide, by decide, fun r2 b2 r20 r21 hB2 => ?_⟩
    refine ⟨_, rfl, _, _, rfl, rfl, ⟨by decide, by decide, by decide⟩, a, _, m + 2, b2, rfl, upd_same, hB2, by omega, by decide, by decide, fun r3 b3 r30 r31 hB3 => ?_⟩
    refine ⟨by show 3 ≤ sizeLine; decide, fun l nl => ?_⟩
    have nla : l ≠ a := fun z => by
      rw [z, upd_same] at nl
      cases nl
    refine ⟨_, rfl, a, 3, m + 3, b3, rfl, by rw [upd_ne nla.symm, upd_same], hB3, by omega, by decide, by decide, fun r4 b4 r40 r41 hB4 => ?_⟩
    have hl : (upd (upd (upd (upd (upd H a (.lst b1)) a (.lst b2)) a (.lst b3)) l (.lst [.int r1, .int r2, .int r3])) a (.lst b4)) l = some (.lst [.int r1, .int r2, .int r3]) := by
      rw [upd_ne nla, upd_same]
    have bt : But a H (upd (upd (upd (upd (upd H a (.lst b1)) a (.lst b2)) a (.lst b3)) l (.lst [.int r1, .int r2, .int r3])) a (.lst b4)) := But.upd (But.new (But.upd (But.upd (But.upd (But.refl a H)))) nl)
    have r31' : r3 < 1000000 := r31
    have hc : r4 = 0 ∨ r4 = 1 ∨ r4 = 2 := by omega
    rcases hc with rfl | rfl | rfl
    · exact ⟨l, _, _, _, rfl, rfl, SqL.of hl, atI_nat (j := 0) rfl, q _ _ b4 bt upd_same hB4 r10 (by omega)⟩
    · exact ⟨l, _, _, _, rfl, rfl, SqL.of hl, atI_nat (j := 1) rfl, q _ _ b4 bt upd_same hB4 r20 (by omega)⟩
    · exact ⟨l, _, _, _, rfl, rfl, SqL.of hl, atI_nat (j := 2) rfl, q _ _ b4 bt upd_same hB4 r30 r31'⟩
end
/-! ### names: unlike ones, NAMEs all -/
abbrev s__law_named : Stmt := top 58
abbrev N__law_named : List Str := ["_law_box", "_law_many", "_law_letters", "_law_found", "_law_words", "_law_k", "_law_name", "_law_turn"]
abbrev P__law_named : List Str := ["_law_box", "_law_many"]
theorem sc__law_named : FnScope N__law_named P__law_named (defScope s__law_named) := ⟨rfl, rfl, rfl, by decide +kernel, rfl, by decide +kernel, by decide +kernel⟩
def LET : Str := "abcdefghijklmnopqrstuvwxyz"
theorem let_lst : LET.cps.toList = [97, 98, 99, 100, 101, 102, 103, 104, 105, 106, 107, 108, 109, 110, 111, 112, 113, 114, 115, 116, 117, 118, 119, 120, 121, 122] := by decide +kernel
theorem let_nth {i : Nat} (h : i < 26) : LET.cps.toList[i]? = some (97 + i) := by
  rw [let_lst]
  have hc : i = 0 ∨ i = 1 ∨ i = 2 ∨ i = 3 ∨ i = 4 ∨ i = 5 ∨ i = 6 ∨ i = 7 ∨ i = 8 ∨ i = 9 ∨ i = 10 ∨ i = 11 ∨ i = 12 ∨ i = 13 ∨ i = 14 ∨ i = 15 ∨ i = 16 ∨ i = 17 ∨ i = 18 ∨ i = 19 ∨ i = 20 ∨ i = 21 ∨ i = 22 ∨ i = 23 ∨ i = 24 ∨ i = 25 := by omega
  rcases hc with rfl | rfl | rfl | rfl | rfl | rfl | rfl | rfl | rfl | rfl | rfl | rfl | rfl | rfl | rfl | rfl | rfl | rfl | rfl | rfl | rfl | rfl | rfl | rfl | rfl | rfl <;> rfl
/-- letters, one to six -/
def Wd (w : List Nat) : Prop := 1 ≤ w.length ∧ w.length ≤ 6 ∧ ∀ c ∈ w, isLet c = true
/-- a NAME -/
def NmOk (w : List Nat) : Prop := Wd w ∧ w ≠ OWNL
theorem join_nil : ∀ ps : List (List Nat), TL.joinL [] ps = ps.flatten := fun ps => by
  induction ps with
  | nil => rfl
  | cons p r ih =>
    cases r with
    | nil => simp [TL.joinL]
    | cons q r =>
      show p ++ ([] ++ TL.joinL [] (q :: r)) = _
      rw [ih]
      rfl
theorem sing_flat : ∀ cs : List Nat, (cs.map fun c => [c]).flatten = cs
  | [] => rfl
  | c :: cs => by
    rw [List.map_cons, List.flatten_cons, sing_flat cs]
    rfl
theorem s_emp : (("" : String) : Str) = SX.S [] := by decide +kernel
theorem s_own : (("own" : String) : Str) = SX.S OWNL := by decide +kernel
def WORDS : Str := "copy plus less over rest least same pick sort make rule cap kept at number lay put end ask tree"
theorem words_wd : (Txt.split WORDS " ").length = 20 ∧ ∀ z ∈ Txt.split WORDS " ", ∃ w, z = SX.S w ∧ Wd w := by
  have hall : (Txt.split WORDS " ").length = 20 ∧ (Txt.split WORDS " ").all (fun z => decide (1 ≤ z.cps.toList.length) && (decide (z.cps.toList.length ≤ 6) && z.cps.toList.all isLet)) = true := by decide +kernel
  refine ⟨hall.1, fun z hz => ⟨z.cps.toList, (SX.S_tl z).symm, ?_⟩⟩
  have hh := List.all_eq_true.mp hall.2 z hz
  simp only [Bool.and_eq_true, decide_eq_true_eq] at hh
  exact ⟨hh.1, hh.2.1, fun c hc => List.all_eq_true.mp hh.2.2 c hc⟩
theorem nodup_le {us f : List (List Nat)} (h : us.Nodup) (s : ∀ u ∈ us, u ∈ f) : us.length ≤ f.length := by
  induction us generalizing f with
  | nil => exact Nat.zero_le _
  | cons u us ih =>
    have hu := s u (List.mem_cons_self ..)
    rw [List.nodup_cons] at h
    have := ih (f := f.erase u) h.2 fun x hx => (List.mem_erase_of_ne (fun z => h.1 (by rw [← z]; exact hx))).mpr (s x (List.mem_cons_of_mem _ hx))
    rw [List.length_erase_of_mem hu] at this
    have : 0 < f.length := List.length_pos_of_mem hu
    rw [List.length_cons]
    omega
/-- another name in the place of one that is taken -/
def bend (w : List Nat) (j : Nat) : List Nat := w.take 4 ++ [97] ++ [97 + j]
theorem bend_wd {w : List Nat} {j : Nat} (h : Wd w) (hj : j < 26) : Wd (bend w j) := by
  unfold bend
  refine ⟨?_, ?_, fun c hc => ?_⟩
  · rw [List.length_append, List.length_append]
    show 1 ≤ _ + 1 + 1
    omega
  · rw [List.length_append, List.length_append, List.length_take]
    show _ + 1 + 1 ≤ 6
    omega
  · rw [List.mem_append, List.mem_append] at hc
    rcases hc with (hc | hc) | hc
    · exact h.2.2 c (List.mem_of_mem_take hc)
    · rw [List.mem_singleton.mp hc]
      rfl
    · rw [List.mem_singleton.mp hc]
      unfold isLet
      rw [decide_eq_true (by omega : 97 ≤ 97 + j), decide_eq_true (by omega : 97 + j ≤ 122)]
      rfl
theorem bend_last (w : List Nat) (j : Nat) : (bend w j).getLast? = some (97 + j) := by
  unfold bend
  rw [List.getLast?_append]
  rfl
theorem bend_own {w : List Nat} {j : Nat} : bend w j ≠ OWNL := fun z => by
  have e : (bend w j).reverse = OWNL.reverse := congrArg List.reverse z
  unfold bend OWNL at e
  rw [List.reverse_append, List.reverse_append] at e
  have e2 : (97 + j) :: 97 :: (w.take 4).reverse = [110, 119, 111] := e
  injection e2 with _ e3
  injection e3 with e4 _
  exact absurd e4 (by decide)
/-- what the turns leave: it is free, or so many were met -/
def Clash (f : List (List Nat)) (j : Nat) (w : List Nat) : Prop := (w ∉ f ∧ w ≠ OWNL) ∨ j = 0 ∨ ∃ us : List (List Nat), us.Nodup ∧ (∀ u ∈ us, u ∈ f ∧ ∃ i, i + 1 < j ∧ u.getLast? = some (97 + i)) ∧ us.length + 1 = j ∧ w.getLast? = some (97 + (j - 1)) ∧ w ≠ OWNL
theorem clash_step {f : List (List Nat)} {j : Nat} {w : List Nat} (h : Clash f j w) (hb : w ∈ f ∨ w = OWNL) : Clash f (j + 1) (bend w j) := by
  refine .inr (.inr ?_)
  rcases h with ⟨h1, h2⟩ | rfl | ⟨us, n1, n2, n3, n4, n5⟩
  · rcases hb with hb | hb
    · exact absurd hb h1
    · exact absurd hb h2
  · exact ⟨[], List.nodup_nil, (fun u hu => nomatch hu), rfl, bend_last _ _, bend_own⟩
  · have hw : w ∈ f := by
      rcases hb with hb | hb
      · exact hb
      · exact absurd hb n5
    refine ⟨w :: us, List.nodup_cons.mpr ⟨fun hm => ?_, n1⟩, fun u hu => ?_, by rw [List.length_cons]; omega, bend_last _ _, bend_own⟩
    · obtain ⟨_, i, hi, hl⟩ := n2 w hm
      rw [n4] at hl
      have := Option.some.inj hl
      omega
    · rcases List.mem_cons.mp hu with rfl | hu
      · exact ⟨hw, j - 1, by omega, n4⟩
      · obtain ⟨h1, i, hi, hl⟩ := n2 u hu
        exact ⟨h1, i, by omega, hl⟩
theorem clash_end {f : List (List Nat)} {w : List Nat} (h : Clash f (f.length + 2) w) : w ∉ f ∧ w ≠ OWNL := by
  rcases h with h | h | ⟨us, n1, n2, n3, _, _⟩
  · exact h
  · omega
  · have := nodup_le n1 fun u hu => (n2 u hu).1
    omega
def nmV (ws : List (List Nat)) : List V := ws.map fun w => V.str (SX.S w)
theorem in_names (w : List Nat) (ws : List (List Nat)) : inV (.str (SX.S w)) (nmV ws) = decide (w ∈ ws) := by
  induction ws with
  | nil => rfl
  | cons u ws ih =>
    show (eqV (.str (SX.S u)) (.str (SX.S w)) || inV (.str (SX.S w)) (nmV ws)) = _
    rw [ih]
    show ((SX.S u == SX.S w) || _) = _
    rw [SX.S_beq_eq, Bool.eq_iff_iff, Bool.or_eq_true, decide_eq_true_eq, decide_eq_true_eq, decide_eq_true_eq, List.mem_cons]
    exact ⟨fun h => h.elim (fun e => .inl e.symm) .inr, fun h => h.elim (fun e => .inl e.symm) .inr⟩
theorem flat_names (ws : List (List Nat)) : (nmV ws).all flatV = true := by
  induction ws with
  | nil => rfl
  | cons w ws ih =>
    show (true && (nmV ws).all flatV) = true
    rw [ih]
    rfl
theorem nmV_len (ws : List (List Nat)) : (nmV ws).length = ws.length := List.length_map _
def spNamed : Sp := fun vs H Q _ => ∃ (a : Addr) (many m : Nat) (b : List V), vs = [.ref a, .int many] ∧ many ≤ 20 ∧ H a = some (.lst b) ∧ BoxL m b ∧ m + 10 * many < 900000 ∧
  ∀ (H' : Hp) (l : Addr) (ws : List (List Nat)) (b' : List V), But a H H' → H l = none → H' l = some (.lst (nmV ws)) → ws.length = many → ws.Nodup → (∀ w ∈ ws, NmOk w) → H' a = some (.lst b') → BoxL (m + 10 * many) b' → Q (.ref l) H'
section
variable {P : Program} {w : World} {K : PySem.W.Frag} {mg : Str → Option Value} {base : Heap}
theorem ok_named (T : Bt mg) (c_law_take : C8.Cal P w K mg base 1 "_law_take" spTake []) (D : Dd K mg "_law_named" s__law_named P__law_named) : C8.Cal P w K mg base 2 "_law_named" spNamed [] := by
  refine D.cal sc__law_named (fun vs H Q E h => ?_) (fun f cdv A outer s H vs Q E hr h => ?_)
  · obtain ⟨a, many, m, b, rfl, _⟩ := h
    rfl
  · obtain ⟨a, many, m, b, rfl, hmany, ha, hB, hm, q⟩ := h
    refine ⟨_, (pss_cons (ps_asg (pe_tup (pa_cons pe_str (pa_cons (pe_lst pa_nil) pa_nil))) (pg_tup rfl (pgs_cons (pg_name (i := 2) sc__law_named.nd rfl (Or.inr rfl)) (pgs_cons (pg_name (i := 3) sc__law_named.nd rfl (Or.inl rfl)) pgs_nil))))
        (pss_cons (ps_set (i := 4) sc__law_named.nd rfl (Or.inl rfl) pe_str)
        (pss_cons (ps_for PassesOwn.never rfl (pi_range1 rfl T.range (pa_cons (pv 1) pa_nil)) (pg_name (i := 5) sc__law_named.nd rfl (Or.inl rfl))
          (pss_cons (ps_set (i := 6) sc__law_named.nd rfl (Or.inl rfl) (pe_bm PySem.F.plainAttrs_str PySem.F.slot_str_join PySem.F.type_str_join mt_join pe_str (pa_cons (pe_lc (own := [("_law_turn", 7)]) (by exact rfl) sc__law_named.nd (pi_range1 rfl T.range (pa_cons (pe_ix ix_list (pe_lst (pa_cons pe_int (pa_cons pe_int (pa_cons pe_int (pa_cons pe_int pa_nil))))) (C8.pe_c c_law_take hr (by decide) (by rfl) (pa_cons (pv 0) (pa_cons pe_int pa_nil))) (fun _ _ => rfl)) pa_nil)) (blkOk_by (own := [("_law_turn", 7)]) (N := N__law_named) (sc := defScope s__law_named) (by decide +kernel)) (fun _ _ _ _ _ => (pg_name (i := 7) sc__law_named.nd rfl (Or.inl rfl))) (fun _ _ _ _ _ => pts_nil) (fun _ _ _ _ _ => (pe_ix ix_str (pv 2) (C8.pe_c c_law_take hr (by decide) (by rfl) (pa_cons (pv 0) (pa_cons pe_int pa_nil))) (fun _ _ => rfl)))) pa_nil)))
        (C8.pss_cut (ps_if (pt_cmpR op_eq (C8.pe_c c_law_take hr (by decide) (by rfl) (pa_cons (pv 0) (pa_cons pe_int pa_nil))) pe_int (nomark _))
          (pss_one (ps_set (i := 6) sc__law_named.nd rfl (Or.inl rfl) (pe_ix ix_list (pe_bm PySem.F.plainAttrs_str PySem.F.slot_str_split PySem.F.type_str_split mt_split (pv 4) (pa_cons pe_str pa_nil)) (C8.pe_c c_law_take hr (by decide) (by rfl) (pa_cons (pv 0) (pa_cons pe_int pa_nil))) (fun _ _ => rfl))))
          pss_nil)
        (pss_cons (ps_for PassesOwn.never rfl (pi_range1 rfl T.range (pa_cons (pe_op op_add (pe_callB call_len_seq (by rfl) T.len PySem.boot_len (pa_cons (pv 3) pa_nil)) pe_int) pa_nil)) (pg_name (i := 7) sc__law_named.nd rfl (Or.inl rfl))
          (pss_one (ps_if (PW.pt (pw_or (pt_cmpR op_in_seq (pv 6) (pv 3) (by with_unfolding_all rfl)) (pw_or1 (pt_cmpR op_eq (pv 6) pe_str (nomark _)))))
          (pss_one (ps_set (i := 6) sc__law_named.nd rfl (Or.inl rfl) (pe_op op_add_str (pe_op op_add_str (pe_slice sl_str (pv 6) po_none (po_some pe_int)) (pe_ix ix_str (pv 2) (pe_op op_fdiv (pv 7) pe_int) (fun _ _ => rfl))) (pe_ix ix_str (pv 2) (pe_op op_mod (pv 7) pe_int) (fun _ _ => rfl)))))
          pss_nil)))
        (pss_one (ps_expr (pe_bm PySem.F.plainAttrs_list PySem.F.slot_list_append PySem.F.type_list_append mt_append (pv 3) (pa_cons (pv 6) pa_nil))))))))
        (pss_one (ps_ret (pv 3)))))), ?_⟩
    refine ⟨by show 0 ≤ sizeLine; decide, fun l nl => ⟨by show 2 ≤ sizeLine; decide, fun tp nt => ⟨tp, _, rfl, SqT.of upd_same, rfl, _, _, rfl, _, _, rfl, rfl, ?_⟩⟩⟩
    have nla : a ≠ l := ne_of_none ha nl
    have s1 := same_upd (o := .lst []) nl
    have s2 := same_upd (o := .tup [.str "abcdefghijklmnopqrstuvwxyz", .ref l]) nt
    have hl0 := s2 _ _ (upd_same (H := H) (a := l) (o := .lst []))
    have ha0 := s2 _ _ (s1 _ _ ha)
    have s12 := s1.trans s2
    obtain ⟨H0, e0⟩ : ∃ H0, H0 = upd (upd H l (.lst [])) tp (.tup [.str "abcdefghijklmnopqrstuvwxyz", .ref l]) := ⟨_, rfl⟩
    rw [← e0] at hl0 ha0 s12 ⊢
    refine ⟨_, rfl, _, rfl, by omega, by omega, ?_⟩
    refine for_range (lo := 0) (fun i σ H2 => ∃ y5 y6 y7 ws b', σ = [some (.ref a), some (.int many), some (.str LET), some (.ref l), some (.str WORDS), y5, y6, y7] ∧ But a H H2 ∧ H2 l = some (.lst (nmV ws)) ∧ ws.length = i ∧ ws.Nodup ∧ (∀ w ∈ ws, NmOk w) ∧ H2 a = some (.lst b') ∧ BoxL (m + 10 * i) b')
      ⟨none, none, none, [], b, rfl, But.of s12, hl0, rfl, List.nodup_nil, (fun z hz => nomatch hz), ha0, hB⟩ ?_ ?_
    · rintro i σ H2 hi ⟨y5, y6, y7, ws, b2, rfl, bt2, hl2, hzl, hnd, hws, hb2, hB2⟩
      rw [Int.zero_add]
      have hi' : i < 20 := by omega
      refine ⟨rfl, by show 4 ≤ sizeLine; decide, fun l4 n4 => ?_⟩
      have na4 : a ≠ l4 := ne_of_none hb2 n4
      refine ⟨_, rfl, a, 4, m + 10 * i, b2, rfl, same_upd n4 _ _ hb2, hB2, by omega, by decide, by decide, fun r4 b3 r40 r41 hB3 => ?_⟩
      obtain ⟨nn, hn1, hnn, hat⟩ : ∃ nn : Nat, 1 ≤ nn ∧ nn ≤ 6 ∧ atI [V.int 1, .int 2, .int 3, .int 6] r4 = some (.int nn) := by
        have hc : r4 = 0 ∨ r4 = 1 ∨ r4 = 2 ∨ r4 = 3 := by omega
        rcases hc with rfl | rfl | rfl | rfl
        · exact ⟨1, by decide, by decide, atI_nat (j := 0) rfl⟩
        · exact ⟨2, by decide, by decide, atI_nat (j := 1) rfl⟩
        · exact ⟨3, by decide, by decide, atI_nat (j := 2) rfl⟩
        · exact ⟨6, by decide, by decide, atI_nat (j := 3) rfl⟩
      refine ⟨l4, _, _, _, rfl, rfl, SqL.of (by rw [upd_ne na4.symm, upd_same]), hat, nn, rfl, by omega, by omega, fun D nD => ?_⟩
      have hl3 : (upd (upd H2 l4 (.lst [.int 1, .int 2, .int 3, .int 6])) a (.lst b3)) l = some (.lst (nmV ws)) := by
        rw [upd_ne nla.symm]
        exact same_upd n4 _ _ hl2
      have hb3 : (upd (upd H2 l4 (.lst [.int 1, .int 2, .int 3, .int 6])) a (.lst b3)) a = some (.lst b3) := upd_same
      have bt3 : But a H (upd (upd H2 l4 (.lst [.int 1, .int 2, .int 3, .int 6])) a (.lst b3)) := But.upd (But.new bt2 n4)
      obtain ⟨Z, eZ⟩ : ∃ Z, Z = upd (upd H2 l4 (.lst [.int 1, .int 2, .int 3, .int 6])) a (.lst b3) := ⟨_, rfl⟩
      rw [← eZ] at nD hl3 hb3 bt3 ⊢
      have nDa : a ≠ D := ne_of_none hb3 nD
      refine lc_range (lo := 0) (n := (nn : Int).toNat) (fun j H' => But a Z H' ∧ ∃ b' cs, H' a = some (.lst b') ∧ BoxL (m + 10 * i + 1 + j) b' ∧ H' D = some (.lst (nmV (cs.map fun c => [c]))) ∧ cs.length = j ∧ ∀ c ∈ cs, isLet c = true)
        ⟨But.of (same_upd nD), b3, [], by rw [upd_ne nDa]; exact hb3, hB3, upd_same, rfl, (fun z hz => nomatch hz)⟩ ?_ ?_
      · rintro j H4 hj ⟨bt4, b4, cs, hb4, hB4, hD4, hyl, hys⟩
        refine ⟨rfl, yesT ?_⟩
        refine ⟨_, rfl, _, rfl, a, 26, _, b4, rfl, hb4, hB4, by omega, by decide, by decide, fun r b5 r0 r1 hB5 => ?_⟩
        obtain ⟨k, rfl⟩ := Int.eq_ofNat_of_zero_le r0
        have hk : k < 26 := by omega
        refine ⟨LET, _, 97 + k, rfl, rfl, by decide +kernel, atI_nat (let_nth hk), ?_⟩
        refine ⟨_, by rw [upd_ne nDa.symm]; exact hD4, by rw [nmV_len, List.length_map, hyl]; exact small1000 (by omega), ?_, b5, cs ++ [97 + k], by rw [upd_ne nDa, upd_same], hB5, by rw [upd_same]; unfold nmV; rw [List.map_append, List.map_append]; rfl, by rw [List.length_append, hyl]; rfl, fun c hc => ?_⟩
        · refine fun x o nx hx => ?_
          rw [upd_ne (ne_of_none hx nD), upd_ne nx]
          exact bt4 _ _ nx hx
        · rcases List.mem_append.mp hc with h | h
          · exact hys c h
          · rw [List.mem_singleton.mp h]
            unfold isLet
            rw [decide_eq_true (by omega : 97 ≤ 97 + k), decide_eq_true (by omega : 97 + k ≤ 122)]
            rfl
      rintro H4 ⟨bt4, b4, cs, hb4, hB4, hD4, hyl, hys⟩
      have hy6 : cs.length ≤ 6 := by omega
      have hB4 := hB4.mono (show m + 10 * i + 1 + (nn : Int).toNat ≤ m + 10 * i + 7 by omega)
      have hD4' : H4 D = some (.lst (((cs.map fun c => [c]).map SX.S).map V.str)) := by
        rw [hD4]
        unfold nmV
        rw [List.map_map, List.map_map, List.map_map]
        rfl
      refine ⟨"", D, (cs.map fun c => [c]).map SX.S, rfl, rfl, .inl (SqL.of hD4'), ?_, ?_⟩
      · rw [SX.lens, List.map_map, show (("" : String) : Str).length = 0 from rfl, Nat.mul_zero, Nat.add_zero]
        have : ∀ l : List Nat, ((l.map ((fun x : List Nat => x.length) ∘ fun c => [c])).sum) = l.length := fun l => by
          induction l with
          | nil => rfl
          | cons c l ih =>
            rw [List.map_cons, List.sum_cons, ih, List.length_cons]
            show 1 + _ = _
            omega
        rw [this]
        omega
      have ejoin : Txt.join "" ((cs.map fun c => [c]).map SX.S) = SX.S cs := by
        rw [s_emp, SX.join_S, join_nil, sing_flat]
      rw [ejoin]
      have wd0 : Wd cs := ⟨by omega, hy6, hys⟩
      have hl4 := bt4 _ _ nla.symm hl3
      have btA := bt3.trans bt4
      refine ⟨fun σ H5 => ∃ z b5, σ = [some (.ref a), some (.int many), some (.str LET), some (.ref l), some (.str WORDS), some (.int i), some (.str (SX.S z)), y7] ∧ Wd z ∧ But a H H5 ∧ H5 l = some (.lst (nmV ws)) ∧ H5 a = some (.lst b5) ∧ BoxL (m + 10 * i + 9) b5, ?_, ?_⟩
      · refine ⟨_, rfl, a, 12, m + 10 * i + 7, b4, rfl, hb4, hB4, by omega, by decide, by decide, fun r b5 r0 r1 hB5 => ⟨rfl, _, rfl, ?_⟩⟩
        have hl5 : (upd H4 a (.lst b5)) l = some (.lst (nmV ws)) := by
          rw [upd_ne nla.symm]
          exact hl4
        have bt5 : But a H (upd H4 a (.lst b5)) := But.upd btA
        by_cases e : r = 0
        · refine ifT (decide_eq_true (by rw [e])) ?_
          refine ⟨_, rfl, rfl, WORDS, " ", rfl, rfl, rfl, by decide +kernel, fun p np => ?_⟩
          have npa : a ≠ p := fun z => by
            rw [← z, upd_same] at np
            cases np
          refine ⟨_, rfl, a, 20, m + 10 * i + 8, b5, rfl, same_upd np _ _ upd_same, hB5, by omega, by decide, by decide, fun r2 b6 r20 r21 hB6 => ?_⟩
          obtain ⟨w20, wnm⟩ := words_wd
          obtain ⟨k, rfl⟩ : ∃ k : Nat, r2 = (k : Int) := ⟨r2.toNat, by omega⟩
          have hk : k < (Txt.split WORDS " ").length := by
            rw [w20]
            omega
          obtain ⟨wd, ewd, hwd⟩ := wnm _ (List.getElem_mem hk)
          refine ⟨p, _, _, .str (Txt.split WORDS " ")[k], rfl, rfl, SqL.of (by rw [upd_ne npa.symm, upd_same]), atI_nat (j := k) (by rw [List.getElem?_map, List.getElem?_eq_getElem hk]; rfl), ?_⟩
          rw [ewd]
          exact ⟨wd, b6, rfl, hwd, But.upd (But.new bt5 np), by rw [upd_ne nla.symm]; exact same_upd np _ _ hl5, upd_same, hB6⟩
        · exact ifF (decide_eq_false fun z => e (V.int.inj z)) ⟨cs, b5, rfl, wd0, bt5, hl5, upd_same, hB5.mono (by omega)⟩
      · rintro σ H5 ⟨z0, b5, rfl, hz0, bt5, hl5, hb5, hB5⟩
        have hzl2 : ((nmV ws).length : Int) ≤ 20 := by
          rw [nmV_len]
          omega
        refine ⟨_, rfl, l, _, rfl, .inl (SqL.of hl5), _, _, rfl, rfl, _, rfl, by omega, by omega, ?_⟩
        refine for_range (lo := 0) (fun j σ H6 => H6 = H5 ∧ ∃ z y, σ = [some (.ref a), some (.int many), some (.str LET), some (.ref l), some (.str WORDS), some (.int i), some (.str (SX.S z)), y] ∧ Wd z ∧ Clash ws j z) ⟨rfl, z0, y7, rfl, hz0, .inr (.inl rfl)⟩ ?_ ?_
        · rintro j σ H6 hj ⟨rfl, z, y, rfl, hz, hcl⟩
          rw [Int.zero_add]
          have hj2 : j < 26 := by omega
          have ec : cutS (SX.S z) none (some 4) = SX.S (z.take 4) := by
            unfold cutS
            have hl : (SX.S z).length = z.length := SX.S_len z
            rw [HT.sIx_none, show HT.sIx (SX.S z).length (SX.S z).length (some (4 : Int)) = min 4 (SX.S z).length from HT.sIx_nat _ _ 4, hl, Nat.sub_zero]
            show SX.S ((z.drop 0).take (min 4 z.length)) = _
            rw [List.drop_zero]
            congr 1
            by_cases h4 : 4 ≤ z.length
            · rw [Nat.min_eq_left h4]
            · rw [Nat.min_eq_right (by omega), List.take_length, List.take_of_length_le (by omega)]
          have lz : (SX.S z).length ≤ sizeLine := by
            rw [SX.S_len]
            exact Nat.le_trans hz.2.1 (by decide)
          have l4 : (z.take 4).length ≤ 4 := by
            rw [List.length_take]
            omega
          -- the name is bent
          have bent : (w' : Bool) → w' = true → (z ∈ ws ∨ z = OWNL) → ∃ z' y', ([some (.ref a), some (.int many), some (.str LET), some (.ref l), some (.str WORDS), some (.int i), some (.str (SX.S (bend z j))), some (.int (j : Nat))] : L2.St) = [some (.ref a), some (.int many), some (.str LET), some (.ref l), some (.str WORDS), some (.int i), some (.str (SX.S z')), y'] ∧ Wd z' ∧ Clash ws (j + 1) z' :=
            fun _ _ hb => ⟨bend z j, _, rfl, bend_wd hz hj2, clash_step hcl hb⟩
          have e97 : (SX.S (z.take 4) ++ ⟨#[97]⟩ ++ ⟨#[97 + j]⟩ : Str) = SX.S (bend z j) := by
            show SX.S (z.take 4) ++ SX.S [97] ++ SX.S [97 + j] = _
            rw [SX.S_cat, SX.S_cat]
            rfl
          have at1 : atI LET.cps.toList ((j : Int) / 26) = some 97 := by
            rw [show (j : Int) / 26 = ((0 : Nat) : Int) by omega]
            exact atI_nat (let_nth (by decide))
          have at2 : atI LET.cps.toList ((j : Int) % 26) = some (97 + j) := by
            rw [show (j : Int) % 26 = ((j : Nat) : Int) by omega]
            exact atI_nat (let_nth hj2)
          have s97 : (⟨#[97]⟩ : Str).length = 1 := rfl
          have s97j : (⟨#[97 + j]⟩ : Str).length = 1 := rfl
          have f1 : (cutS (SX.S z) none (some 4)).length + (⟨#[97]⟩ : Str).length ≤ sizeLine := by
            rw [ec, SX.S_len, s97]
            exact Nat.le_trans (show _ ≤ 7 by omega) (by decide)
          have f2 : (cutS (SX.S z) none (some 4) ++ ⟨#[97]⟩).length + (⟨#[97 + j]⟩ : Str).length ≤ sizeLine := by
            rw [strLen_append, ec, SX.S_len, s97, s97j]
            exact Nat.le_trans (show _ ≤ 7 by omega) (by decide)
          refine ⟨_, rfl, _, rfl, l, _, rfl, .inl (SqL.of hl5), rfl, flat_names ws, _, rfl, ?_⟩
          show if inV (.str (SX.S z)) (nmV ws) = true then _ else _
          rw [in_names]
          by_cases hin : z ∈ ws
          · refine ifT (decide_eq_true hin) (iteT ?_)
            refine ⟨_, rfl, 4, rfl, SX.S z, rfl, lz, ?_⟩
            refine ⟨_, rfl, _, rfl, _, _, rfl, rfl, ⟨by show (0 : Int) < 26; decide, by decide⟩, LET, _, 97, rfl, rfl, by decide +kernel, at1, _, _, rfl, rfl, f1, ?_⟩
            refine ⟨_, rfl, _, rfl, _, _, rfl, rfl, (by show (0 : Int) < 26; decide), LET, _, 97 + j, rfl, rfl, by decide +kernel, at2, _, _, rfl, rfl, f2, ?_⟩
            rw [ec, e97]
            exact ⟨rfl, bent true rfl (.inl hin)⟩
          · refine ifF (decide_eq_false hin) ?_
            refine ⟨_, rfl, rfl, _, rfl, ?_⟩
            by_cases ho : z = OWNL
            · refine ifT (decide_eq_true (by rw [ho, s_own])) ?_
              refine ⟨_, rfl, 4, rfl, SX.S z, rfl, lz, ?_⟩
              refine ⟨_, rfl, _, rfl, _, _, rfl, rfl, ⟨by show (0 : Int) < 26; decide, by decide⟩, LET, _, 97, rfl, rfl, by decide +kernel, at1, _, _, rfl, rfl, f1, ?_⟩
              refine ⟨_, rfl, _, rfl, _, _, rfl, rfl, (by show (0 : Int) < 26; decide), LET, _, 97 + j, rfl, rfl, by decide +kernel, at2, _, _, rfl, rfl, f2, ?_⟩
              rw [ec, e97]
              exact ⟨rfl, bent true rfl (.inr ho)⟩
            · refine ifF (decide_eq_false fun y => ho (by rw [s_own] at y; exact SX.S_inj (V.str.inj y))) ⟨rfl, z, _, rfl, hz, .inl ⟨hin, ho⟩⟩
        · rintro σ H6 ⟨rfl, z, y, rfl, hz, hcl⟩
          have hcl : Clash ws (ws.length + 2) z := by
            have e : ((nmV ws).length : Int) + 2 = ((ws.length + 2 : Nat) : Int) := by
              rw [nmV_len]
              omega
            have hcl2 : Clash ws (((nmV ws).length : Int) + 2).toNat z := hcl
            rw [e, Int.toNat_natCast] at hcl2
            exact hcl2
          obtain ⟨hfree, hown⟩ := clash_end hcl
          refine ⟨_, rfl, .inl ⟨rfl, _, SqL.of hl5⟩, _, rfl, l, _, .str (SX.S z), rfl, rfl, hl5, by rw [nmV_len]; exact small1000 (by omega), ?_⟩
          refine ⟨_, _, _, ws ++ [z], b5, rfl, ?_, by rw [upd_same]; unfold nmV; rw [List.map_append]; rfl, by rw [List.length_append, hzl]; rfl, ?_, fun x hx => ?_, by rw [upd_ne nla]; exact hb5, hB5.mono (by omega)⟩
          · refine fun x o nx hx => ?_
            rw [upd_ne (ne_of_none hx nl)]
            exact bt5 _ _ nx hx
          · rw [List.nodup_append]
            exact ⟨hnd, by simp, fun x hx y hy => by
              rw [List.mem_singleton.mp hy]
              exact fun e => hfree (e ▸ hx)⟩
          · rcases List.mem_append.mp hx with h | h
            · exact hws x h
            · rw [List.mem_singleton.mp h]
              exact ⟨hz, hown⟩
    · rintro σ H2 ⟨y5, y6, y7, ws, b2, rfl, bt2, hl2, hzl, hnd, hws, hb2, hB2⟩
      exact ⟨_, rfl, q _ l ws b2 bt2 nl hl2 hzl hnd hws hb2 hB2⟩
end
/-! ### data without lists stand wherever tuples stand -/
def TupO (o : HO) : Prop := (∃ xs, o = .tup xs) ∨ ∃ o' v, o = .frz o' v
def KeepT (H H' : Hp) : Prop := ∀ c o, TupO o → H c = some o → H' c = some o
theorem lst_no {xs : List V} : ¬ TupO (.lst xs) := by
  rintro (⟨ys, z⟩ | ⟨o', v, z⟩) <;> cases z
theorem dK_no {xs : List (Key × V)} : ¬ TupO (.dK xs) := by
  rintro (⟨ys, z⟩ | ⟨o', v, z⟩) <;> cases z
theorem KeepT.refl (H : Hp) : KeepT H H := fun _ _ _ h => h
theorem KeepT.trans {H H1 H2 : Hp} (x : KeepT H H1) (y : KeepT H1 H2) : KeepT H H2 := fun c o t h => y c o t (x c o t h)
theorem KeepT.of {H H' : Hp} (s : Same H H') : KeepT H H' := fun c o _ h => s c o h
theorem KeepT.but {H H' : Hp} {a : Addr} {xs : List V} (ha : H a = some (.lst xs)) (b : But a H H') : KeepT H H' := fun c o t h => b c o (fun z => by
  rw [z, ha] at h
  cases h
  exact lst_no t) h
theorem KeepT.at_ {H : Hp} {a : Addr} {o0 o : HO} (ha : H a = some o0) (n : ¬ TupO o0) : KeepT H (upd H a o) := fun c x t h => by
  rw [upd_ne (fun z => by
    rw [z, ha] at h
    cases h
    exact n t)]
  exact h
theorem KeepT.new {H : Hp} {p : Addr} {o : HO} (n : H p = none) : KeepT H (upd H p o) := KeepT.of (same_upd n)
mutual
def imm : PyData → Bool
  | .tuple ds => immAll ds
  | .list _ => false
  | .dict _ => false
  | .none => true
  | .bool _ => true
  | .int _ => true
  | .str _ => true
def immAll : List PyData → Bool
  | [] => true
  | d :: ds => imm d && immAll ds
end
section
variable {K : PySem.W.Frag} {H H' : Hp}
theorem KeepT.seqT {a : Addr} {xs : List V} (k : KeepT H H') (h : SqT K H a xs) : SqT K H' a xs := by
  rcases h with (h | ⟨o, h⟩) | h
  · exact .inl (.inl (k _ _ (.inl ⟨_, rfl⟩) h))
  · exact .inl (.inr ⟨o, k _ _ (.inr ⟨_, _, rfl⟩) h⟩)
  · exact .inr h
mutual
theorem dp_imm (k : KeepT H H') : ∀ {v : V} {d : PyData}, Dp K H v d → imm d = true → Dp K H' v d
  | _, _, .non, _ => .non
  | _, _, .bl b, _ => .bl b
  | _, _, .int i, _ => .int i
  | _, _, .str x, _ => .str x
  | _, _, .lst h a, i => nomatch (show (false : Bool) = true from i)
  | _, _, .tup h a, i => .tup (k.seqT h) (dpAll_imm k a i)
theorem dpAll_imm (k : KeepT H H') : ∀ {vs : List V} {ds : List PyData}, DpAll K H vs ds → immAll ds = true → DpAll K H' vs ds
  | _, _, .nil, _ => .nil
  | _, _, .cons h a, i => .cons (dp_imm k h (Bool.and_eq_true_iff.mp i).1) (dpAll_imm k a (Bool.and_eq_true_iff.mp i).2)
end
end
theorem immAll_app : ∀ {ds es : List PyData}, immAll ds = true → immAll es = true → immAll (ds ++ es) = true
  | [], _, _, h => h
  | d :: ds, es, h, k => by
    obtain ⟨h1, h2⟩ := Bool.and_eq_true_iff.mp h
    show (imm d && immAll (ds ++ es)) = true
    rw [h1, immAll_app h2 k]
    rfl
theorem immAll_map {α : Type} {f : α → PyData} (h : ∀ a, imm (f a) = true) : ∀ l : List α, immAll (l.map f) = true
  | [] => rfl
  | a :: l => by
    show (imm (f a) && immAll (l.map f)) = true
    rw [h a, immAll_map h l]
    rfl
theorem dpAll_appI {K : PySem.W.Frag} {H : Hp} : ∀ {vs ws : List V} {ds es : List PyData}, DpAll K H vs ds → DpAll K H ws es → DpAll K H (vs ++ ws) (ds ++ es)
  | _, _, _, _, .nil, h => h
  | _, _, _, _, .cons h a, k => .cons h (dpAll_appI a k)
/-! ### slices by whole numbers -/
theorem cutV_to (xs : List V) (k : Nat) : cutV xs none (some (k : Int)) = xs.take k := by
  unfold cutV
  rw [HT.sIx_none, show HT.sIx xs.length xs.length (some (k : Int)) = min k xs.length from HT.sIx_nat _ _ k, List.drop_zero, Nat.sub_zero]
  by_cases h : k ≤ xs.length
  · rw [Nat.min_eq_left h]
  · rw [Nat.min_eq_right (by omega), List.take_length, List.take_of_length_le (by omega)]
theorem cutV_from (xs : List V) (i : Nat) : cutV xs (some (i : Int)) none = xs.drop i := by
  unfold cutV
  rw [HT.sIx_none, show HT.sIx xs.length 0 (some (i : Int)) = min i xs.length from HT.sIx_nat _ _ i]
  by_cases h : i ≤ xs.length
  · rw [Nat.min_eq_left h, List.take_of_length_le (by rw [List.length_drop]; exact Nat.le_refl _)]
  · rw [List.drop_eq_nil_of_le (by omega : xs.length ≤ min i xs.length), List.take_nil, List.drop_eq_nil_of_le (by omega)]
theorem cutV_nat (xs : List V) (i k : Nat) : cutV xs (some (i : Int)) (some (k : Int)) = (xs.drop i).take (k - i) := by
  unfold cutV
  rw [show HT.sIx xs.length 0 (some (i : Int)) = min i xs.length from HT.sIx_nat _ _ i, show HT.sIx xs.length xs.length (some (k : Int)) = min k xs.length from HT.sIx_nat _ _ k]
  by_cases hi : i ≤ xs.length
  · rw [Nat.min_eq_left hi]
    by_cases hk : k ≤ xs.length
    · rw [Nat.min_eq_left hk]
    · rw [Nat.min_eq_right (by omega), List.take_of_length_le (by rw [List.length_drop]; omega), List.take_of_length_le (by rw [List.length_drop]; omega)]
  · rw [List.drop_eq_nil_of_le (by omega : xs.length ≤ min i xs.length), List.drop_eq_nil_of_le (by omega : xs.length ≤ i), List.take_nil, List.take_nil]
theorem perm_map {α : Type} {f : α → V} : ∀ {ys xs : List V}, ys.Perm xs → ∀ us : List α, xs = us.map f → ∃ ws : List α, ys = ws.map f ∧ ws.Perm us := by
  intro ys xs h
  induction h with
  | nil =>
    intro us e
    exact ⟨[], rfl, by rw [List.map_eq_nil_iff.mp e.symm]⟩
  | cons x _ ih =>
    intro us e
    cases us with
    | nil => cases e
    | cons u us =>
      injection e with e1 e2
      obtain ⟨ws, h1, h2⟩ := ih us e2
      exact ⟨u :: ws, by rw [h1, e1]; rfl, h2.cons u⟩
  | swap x y l =>
    intro us e
    cases us with
    | nil => cases e
    | cons u us =>
      cases us with
      | nil =>
        injection e with _ e2
        cases e2
      | cons u2 us =>
        injection e with e1 e2
        injection e2 with e2 e3
        exact ⟨u2 :: u :: us, by rw [e1, e2, e3]; rfl, .swap u u2 us⟩
  | trans _ _ ih1 ih2 =>
    intro us e
    obtain ⟨ws, h1, h2⟩ := ih2 us e
    obtain ⟨vs, h3, h4⟩ := ih1 ws h1
    exact ⟨vs, h3, h4.trans h2⟩
/-! ### sorts drawn -/
abbrev s__law_sort_rows : Stmt := top 60
abbrev N__law_sort_rows : List Str := ["_law_box", "_law_many", "_law_names", "_law_rows", "_law_k", "_law_some", "_law_cut"]
abbrev P__law_sort_rows : List Str := ["_law_box", "_law_many"]
theorem sc__law_sort_rows : FnScope N__law_sort_rows P__law_sort_rows (defScope s__law_sort_rows) := ⟨rfl, rfl, rfl, by decide +kernel, rfl, by decide +kernel, by decide +kernel⟩
def strD (w : List Nat) : PyData := .str (SX.S w)
structure SRow where
  nm : List Nat
  dn : List (List Nat)
  up : List (List Nat)
def SRow.d (r : SRow) : PyData := .tuple [strD r.nm, .tuple (r.dn.map strD), .tuple (r.up.map strD)]
structure SOk (r : SRow) : Prop where
  nm : NmOk r.nm
  all : ∀ w ∈ r.dn ++ r.up, NmOk w
  nd : (r.dn ++ r.up).Nodup
  d2 : r.dn.length ≤ 2
  u2 : r.up.length ≤ 2
structure SortsOk (rs : List SRow) : Prop where
  ok : ∀ r ∈ rs, SOk r
  nd : (rs.map SRow.nm).Nodup
  le : rs.length ≤ 4
theorem strD_imm (w : List Nat) : imm (strD w) = true := rfl
theorem SRow.imm (r : SRow) : Thr.imm r.d = true := by
  show (true && (immAll (r.dn.map strD) && (immAll (r.up.map strD) && true))) = true
  rw [immAll_map strD_imm, immAll_map strD_imm]
  rfl
theorem nm_dp {K : PySem.W.Frag} {H : Hp} : ∀ ws : List (List Nat), DpAll K H (nmV ws) (ws.map strD)
  | [] => .nil
  | w :: ws => .cons (.str _) (nm_dp ws)
theorem nmV_take (ws : List (List Nat)) (k : Nat) : (nmV ws).take k = nmV (ws.take k) := List.map_take.symm
theorem nmV_drop (ws : List (List Nat)) (k : Nat) : (nmV ws).drop k = nmV (ws.drop k) := List.map_drop.symm
theorem nmV_at {ws : List (List Nat)} {i : Nat} {w : List Nat} (h : ws[i]? = some w) : (nmV ws)[i]? = some (.str (SX.S w)) := by
  unfold nmV
  rw [List.getElem?_map, h]
  rfl
def spSortRows (K : PySem.W.Frag) : Sp := fun vs H Q _ => ∃ (a : Addr) (many m : Nat) (b : List V), vs = [.ref a, .int many] ∧ 1 ≤ many ∧ many ≤ 4 ∧ H a = some (.lst b) ∧ BoxL m b ∧ m + 300 < 900000 ∧
  ∀ (H' : Hp) (l : Addr) (vs' : List V) (rs : List SRow) (b' : List V), But a H H' → H l = none → H' l = some (.lst vs') → DpAll K H' vs' (rs.map SRow.d) → rs.length = many → SortsOk rs → H' a = some (.lst b') → BoxL (m + 300) b' → Q (.ref l) H'
structure So (mg : Str → Option Value) : Prop where
  range : mg "range" = none
  tuple : mg "tuple" = none
section
variable {P : Program} {w : World} {K : PySem.W.Frag} {mg : Str → Option Value} {base : Heap}
theorem ok_sort_rows (T : So mg) (c_law_take : C8.Cal P w K mg base 1 "_law_take" spTake []) (c_law_named : C8.Cal P w K mg base 2 "_law_named" spNamed []) (c_law_strewn : C8.Cal P w K mg base 2 "_law_strewn" (spStrewn K) [])
    (D : Dd K mg "_law_sort_rows" s__law_sort_rows P__law_sort_rows) : C8.Cal P w K mg base 3 "_law_sort_rows" (spSortRows K) [] := by
  refine D.cal sc__law_sort_rows (fun vs H Q E h => ?_) (fun f cdv A outer s H vs Q E hr h => ?_)
  · obtain ⟨a, many, m, b, rfl, _⟩ := h
    rfl
  · obtain ⟨a, many, m, b, rfl, hm1, hm4, ha, hB, hm, q⟩ := h
    refine ⟨_, (pss_cons (ps_par rfl sc__law_sort_rows.nd (i := 2) (j := 3) rfl rfl (by decide) rfl rfl (pa_cons (C8.pe_c c_law_named hr (by decide) (by rfl) (pa_cons (pv 0) (pa_cons (pe_op op_add (pv 1) pe_int) pa_nil))) (pa_cons (pe_lst pa_nil) pa_nil)) (by rfl))
        (pss_cons (ps_for PassesOwn.never rfl (pi_range1 rfl T.range (pa_cons (pv 1) pa_nil)) (pg_name (i := 4) sc__law_sort_rows.nd rfl (Or.inl rfl))
          (C8.pss_cut (ps_set (i := 5) sc__law_sort_rows.nd rfl (Or.inl rfl) (pe_ifExp (pt_cmpR op_eq (C8.pe_c c_law_take hr (by decide) (by rfl) (pa_cons (pv 0) (pa_cons pe_int pa_nil))) pe_int (nomark _)) (pe_slice sl_list (C8.pe_c c_law_strewn hr (by decide) (by rfl) (pa_cons (pv 0) (pa_cons (pe_slice sl_list (pv 2) (po_some (pv 1)) po_none) pa_nil))) po_none (po_some pe_int)) (pe_slice sl_list (pe_slice sl_list (pv 2) (po_some (pe_op op_add (pv 1) (pe_op op_mul pe_int (pv 4)))) po_none) po_none (po_some pe_int))))
        (pss_cons (ps_set (i := 6) sc__law_sort_rows.nd rfl (Or.inl rfl) (C8.pe_c c_law_take hr (by decide) (by rfl) (pa_cons (pv 0) (pa_cons pe_int pa_nil))))
        (pss_one (ps_expr (pe_bm PySem.F.plainAttrs_list PySem.F.slot_list_append PySem.F.type_list_append mt_append (pv 3) (pa_cons (pe_tup (pa_cons (pe_ix ix_list (pv 2) (pv 4) (fun _ _ => rfl)) (pa_cons (pe_callTy call_tuple_of (by rfl) T.tuple (by decide +kernel) (pa_cons (pe_slice sl_list (pv 5) po_none (po_some (pv 6))) pa_nil)) (pa_cons (pe_callTy call_tuple_of (by rfl) T.tuple (by decide +kernel) (pa_cons (pe_slice sl_list (pv 5) (po_some (pv 6)) (po_some (pe_op op_add (pe_op op_add (pv 6) pe_int) (C8.pe_c c_law_take hr (by decide) (by rfl) (pa_cons (pv 0) (pa_cons pe_int pa_nil)))))) pa_nil)) pa_nil)))) pa_nil)))))))
        (pss_one (ps_ret (pv 3))))), ?_⟩
    refine ⟨_, rfl, _, rfl, _, _, rfl, rfl, a, many + 8, m, b, rfl, by omega, ha, hB, by omega, fun H1 ln ws b1 bt1 nln hln hwl hnd hws hb1 hB1 => ?_⟩
    refine ⟨by show 0 ≤ sizeLine; decide, fun l nl => ⟨_, _, rfl, ?_⟩⟩
    have g1 := same_upd (o := .lst []) nl
    have nla : l ≠ a := fun z => by
      rw [z, hb1] at nl
      cases nl
    have nlna : ln ≠ a := fun z => by
      rw [z, ha] at nln
      cases nln
    have nll : l ≠ ln := fun z => by
      rw [z, hln] at nl
      cases nl
    have nlH : H l = none := But.free bt1 hb1 nl
    refine ⟨_, rfl, _, rfl, by omega, by omega, ?_⟩
    refine for_range (lo := 0) (fun i σ X => ∃ y4 y5 y6 vs rs b', σ = [some (.ref a), some (.int many), some (.ref ln), some (.ref l), y4, y5, y6] ∧ But a H X ∧ X ln = some (.lst (nmV ws)) ∧ X l = some (.lst vs) ∧ DpAll K X vs (rs.map SRow.d) ∧ rs.length = i ∧ (∀ r ∈ rs, SOk r) ∧ rs.map SRow.nm = ws.take i ∧ X a = some (.lst b') ∧ BoxL (m + 10 * (many + 8) + 20 * i) b')
      ⟨none, none, none, [], [], b1, rfl, bt1.trans (But.of g1), g1 _ _ hln, upd_same, .nil, rfl, (fun r h => nomatch h), rfl, g1 _ _ hb1, hB1⟩ ?_ ?_
    · rintro i σ X hi ⟨y4, y5, y6, vs, rs, b2, rfl, btX, hlnX, hlX, hdX, hrl, hrs, hrn, hbX, hBX⟩
      rw [Int.zero_add]
      have hi4 : i < many := by omega
      have kX : ∀ {Y : Hp}, But a X Y → KeepT X Y := fun {Y} z => KeepT.but hbX z
      refine ⟨fun σ Y => ∃ ls us b3, σ = [some (.ref a), some (.int many), some (.ref ln), some (.ref l), some (.int (i : Nat)), some (.ref ls), y6] ∧ But a X Y ∧ Y ls = some (.lst (nmV us)) ∧ X ls = none ∧ us.Nodup ∧ (∀ w ∈ us, w ∈ ws) ∧ us.length ≤ 3 ∧ Y a = some (.lst b3) ∧ BoxL (m + 10 * (many + 8) + 20 * i + 15) b3, ?_, ?_⟩
      · refine ⟨_, rfl, a, 2, _, b2, rfl, hbX, hBX, by omega, by decide, by decide, fun r b3 r0 r1 hB3 => ⟨rfl, _, rfl, ?_⟩⟩
        have bX1 : But a X (upd X a (.lst b3)) := But.upd (But.refl a X)
        have ha1 : (upd X a (.lst b3)) a = some (.lst b3) := upd_same
        have hln1 := bX1 _ _ nlna hlnX
        obtain ⟨X1, e1⟩ : ∃ X1, X1 = upd X a (.lst b3) := ⟨_, rfl⟩
        rw [← e1] at bX1 ha1 hln1 ⊢
        by_cases h0 : r = 0
        · refine ifT (decide_eq_true (by rw [h0])) ?_
          refine ⟨_, rfl, _, rfl, _, rfl, _, rfl, ln, _, rfl, SqL.of hln1, fun c nc => ?_⟩
          rw [cutV_from, nmV_drop] 
          have g2 := same_upd (o := .lst (nmV (ws.drop many))) nc
          have nca : c ≠ a := fun z => by
            rw [z, ha1] at nc
            cases nc
          have ld : (nmV (ws.drop many)).length = 8 := by
            rw [nmV_len, List.length_drop]
            omega
          refine ⟨a, c, _, b3, _, rfl, g2 _ _ ha1, hB3, by omega, SqL.of upd_same, nca, by omega, fun Y ls0 ys b4 bt4 nls hls hperm hb4 hB4 => ?_⟩
          obtain ⟨us, eus, hp⟩ := perm_map hperm (ws.drop many) rfl
          have eus : ys = nmV us := eus
          subst eus
          refine ⟨3, rfl, ls0, _, rfl, SqL.of hls, fun c2 nc2 => ?_⟩
          have bXY : But a X Y := bX1.trans ((But.of g2).trans bt4)
          have hnd2 : us.Nodup := hp.nodup_iff.mpr (hnd.sublist (List.drop_sublist _ _))
          refine ⟨c2, us.take 3, b4, rfl, bXY.trans (But.of (same_upd nc2)), ?_, ?_, hnd2.sublist (List.take_sublist _ _), fun w hw => List.mem_of_mem_drop (hp.mem_iff.mp (List.mem_of_mem_take hw)), by rw [List.length_take]; omega, same_upd nc2 _ _ hb4, hB4.mono (by rw [ld]; omega)⟩
          · rw [upd_same, show (3 : Int) = ((3 : Nat) : Int) from rfl, cutV_to, nmV_take]
          · exact But.free bXY hb4 nc2
        · refine ifF (decide_eq_false fun y => h0 (V.int.inj y)) ?_
          refine ⟨_, rfl, _, rfl, _, rfl, _, _, rfl, rfl, .inl ⟨by decide, by decide⟩, _, _, rfl, rfl, _, rfl, ln, _, rfl, SqL.of hln1, fun c nc => ?_⟩
          have ec : cutV (nmV ws) (some ((many : Int) + 2 * (i : Int))) none = nmV (ws.drop (many + 2 * i)) := by
            rw [show (many : Int) + 2 * (i : Int) = ((many + 2 * i : Nat) : Int) by omega, cutV_from, nmV_drop]
          have g2 := same_upd (o := .lst (cutV (nmV ws) (some ((many : Int) + 2 * (i : Int))) none)) nc
          refine ⟨3, rfl, c, _, rfl, SqL.of upd_same, fun c2 nc2 => ?_⟩
          have bXY := bX1.trans (But.of (a := a) g2)
          refine ⟨c2, (ws.drop (many + 2 * i)).take 3, b3, rfl, bXY.trans (But.of (same_upd nc2)), ?_, ?_, (hnd.sublist (List.drop_sublist _ _)).sublist (List.take_sublist _ _), fun w hw => List.mem_of_mem_drop (List.mem_of_mem_take hw), by rw [List.length_take]; omega, same_upd nc2 _ _ (g2 _ _ ha1), hB3.mono (by omega)⟩
          · rw [upd_same, ec, show (3 : Int) = ((3 : Nat) : Int) from rfl, cutV_to, nmV_take]
          · exact But.free bXY (g2 _ _ ha1) nc2
      rintro σ Y ⟨ls, us, b3, rfl, bXY, hls, nls, hnu, hus, hul, hbY, hBY⟩
      have nlsa : ls ≠ a := fun z => by
        rw [z, hbX] at nls
        cases nls
      refine ⟨_, rfl, a, 3, _, b3, rfl, hbY, hBY, by omega, by decide, by decide, fun r5 b5 h5 h5' hB5 => ?_⟩
      obtain ⟨cut, rfl⟩ := Int.eq_ofNat_of_zero_le h5
      have bY1 : But a Y (upd Y a (.lst b5)) := But.upd (But.refl a Y)
      have ha1 : (upd Y a (.lst b5)) a = some (.lst b5) := upd_same
      obtain ⟨Y1, e1⟩ : ∃ Y1, Y1 = upd Y a (.lst b5) := ⟨_, rfl⟩
      rw [← e1] at bY1 ha1 ⊢
      have bXY1 := bXY.trans bY1
      have hlY1 := bXY1 _ _ nla hlX
      have hln1 := bXY1 _ _ nlna hlnX
      have hls1 := bY1 _ _ nlsa hls
      obtain ⟨w, hw⟩ : ∃ w, ws[i]? = some w := ⟨ws[i]'(by omega), List.getElem?_eq_getElem _⟩
      refine ⟨_, rfl, .inl ⟨rfl, _, SqL.of hlY1⟩, ?_⟩
      refine ⟨_, rfl, _, rfl, ln, _, _, _, rfl, rfl, SqL.of hln1, atI_nat (nmV_at hw), ?_⟩
      refine ⟨_, rfl, _, rfl, _, rfl, ls, _, rfl, SqL.of hls1, fun c1 nc1 => ⟨c1, _, rfl, .inl ⟨SqL.of upd_same, fun t1 nt1 => ?_⟩⟩⟩
      have e2 : cutV (nmV us) none (some (cut : Int)) = nmV (us.take cut) := by rw [cutV_to, nmV_take]
      have k1 := same_upd (o := .lst (cutV (nmV us) none (some (cut : Int)))) nc1
      have k2 := same_upd (o := .tup (cutV (nmV us) none (some (cut : Int)))) nt1
      have k12 := k1.trans k2
      have ht1 := upd_same (H := upd Y1 c1 (.lst (cutV (nmV us) none (some (cut : Int))))) (a := t1) (o := .tup (cutV (nmV us) none (some (cut : Int))))
      obtain ⟨Y2, eY2⟩ : ∃ Y2, Y2 = upd (upd Y1 c1 (.lst (cutV (nmV us) none (some (cut : Int))))) t1 (.tup (cutV (nmV us) none (some (cut : Int)))) := ⟨_, rfl⟩
      rw [← eY2] at k12 ht1 ⊢
      rw [e2] at ht1
      refine ⟨_, rfl, _, rfl, _, rfl, _, rfl, _, _, rfl, rfl, _, rfl, a, 2, _, b5, rfl, k12 _ _ ha1, hB5, by omega, by decide, by decide, fun r6 b6 h6 h6' hB6 => ?_⟩
      obtain ⟨x6, rfl⟩ := Int.eq_ofNat_of_zero_le h6
      have bY3 : But a Y2 (upd Y2 a (.lst b6)) := But.upd (But.refl a Y2)
      have ha3 : (upd Y2 a (.lst b6)) a = some (.lst b6) := upd_same
      have nt1a : t1 ≠ a := fun z => by
        have := k12 _ _ ha1
        rw [← z, ht1] at this
        cases this
      have ht3 := bY3 _ _ nt1a ht1
      obtain ⟨Y3, eY3⟩ : ∃ Y3, Y3 = upd Y2 a (.lst b6) := ⟨_, rfl⟩
      rw [← eY3] at bY3 ha3 ht3 ⊢
      have bY13 : But a Y1 Y3 := (But.of k12).trans bY3
      have hls3 := bY13 _ _ nlsa hls1
      refine ⟨_, _, rfl, rfl, _, rfl, ls, _, rfl, SqL.of hls3, fun c2 nc2 => ⟨c2, _, rfl, .inl ⟨SqL.of upd_same, fun t2 nt2 => ?_⟩⟩⟩
      have e3 : cutV (nmV us) (some (cut : Int)) (some ((cut : Int) + 1 + (x6 : Int))) = nmV ((us.drop cut).take (1 + x6)) := by
        rw [show (cut : Int) + 1 + (x6 : Int) = ((cut + 1 + x6 : Nat) : Int) by omega, cutV_nat, show cut + 1 + x6 - cut = 1 + x6 by omega, nmV_drop, nmV_take]
      have k3 := same_upd (o := .lst (cutV (nmV us) (some (cut : Int)) (some ((cut : Int) + 1 + (x6 : Int))))) nc2
      have k4 := same_upd (o := .tup (cutV (nmV us) (some (cut : Int)) (some ((cut : Int) + 1 + (x6 : Int))))) nt2
      refine ⟨by show 3 ≤ sizeLine; decide, fun t3 nt3 => ?_⟩
      have k5 := same_upd (o := .tup [.str (SX.S w), .ref t1, .ref t2]) nt3
      have k35 := (k3.trans k4).trans k5
      have ht2 := k5 _ _ (upd_same (H := upd Y3 c2 (.lst (cutV (nmV us) (some (cut : Int)) (some ((cut : Int) + 1 + (x6 : Int)))))) (a := t2) (o := .tup (cutV (nmV us) (some (cut : Int)) (some ((cut : Int) + 1 + (x6 : Int))))))
      have ht3' := upd_same (H := upd (upd Y3 c2 (.lst (cutV (nmV us) (some (cut : Int)) (some ((cut : Int) + 1 + (x6 : Int)))))) t2 (.tup (cutV (nmV us) (some (cut : Int)) (some ((cut : Int) + 1 + (x6 : Int)))))) (a := t3) (o := .tup [.str (SX.S w), .ref t1, .ref t2])
      obtain ⟨Y5, eY5⟩ : ∃ Y5, Y5 = upd (upd (upd Y3 c2 (.lst (cutV (nmV us) (some (cut : Int)) (some ((cut : Int) + 1 + (x6 : Int)))))) t2 (.tup (cutV (nmV us) (some (cut : Int)) (some ((cut : Int) + 1 + (x6 : Int)))))) t3 (.tup [.str (SX.S w), .ref t1, .ref t2]) := ⟨_, rfl⟩
      rw [← eY5] at k35 ht2 ht3' ⊢
      rw [e3] at ht2
      have bX5 : But a X Y5 := bXY1.trans (bY13.trans (But.of k35))
      have hl5 := bX5 _ _ nla hlX
      have lvs := dpAll_len hdX
      rw [List.length_map, hrl] at lvs
      refine ⟨l, vs, .ref t3, rfl, rfl, hl5, by rw [lvs]; exact small1000 (by omega), ?_⟩
      have kl : KeepT Y5 (upd Y5 l (.lst (vs ++ [.ref t3]))) := KeepT.at_ hl5 lst_no
      have dRow : Dp K Y5 (.ref t3) (SRow.d ⟨w, us.take cut, (us.drop cut).take (1 + x6)⟩) :=
        .tup (SqT.of ht3') (.cons (.str _) (.cons (.tup (SqT.of (k35 _ _ ht3)) (nm_dp _)) (.cons (.tup (SqT.of ht2) (nm_dp _)) .nil)))
      have okR : SOk ⟨w, us.take cut, (us.drop cut).take (1 + x6)⟩ := by
        have hsub : (us.take cut ++ (us.drop cut).take (1 + x6)).Sublist us := by
          have h1 : (us.take cut ++ (us.drop cut).take (1 + x6)).Sublist (us.take cut ++ us.drop cut) := List.Sublist.append (List.Sublist.refl _) (List.take_sublist _ _)
          rw [List.take_append_drop] at h1
          exact h1
        exact ⟨hws w (List.mem_of_getElem? hw), fun x hx => hws x (hus x (hsub.subset hx)), hnu.sublist hsub, by show (us.take cut).length ≤ 2; rw [List.length_take]; omega, by show ((us.drop cut).take (1 + x6)).length ≤ 2; rw [List.length_take]; omega⟩
      refine ⟨_, _, _, vs ++ [.ref t3], rs ++ [⟨w, us.take cut, (us.drop cut).take (1 + x6)⟩], b6, rfl, fun c o nc hc => ?_, ?_, upd_same, ?_, by rw [List.length_append, hrl]; rfl, fun r hr => ?_, ?_, ?_, hB6.mono (by omega)⟩
      · rw [upd_ne (ne_of_none hc nlH)]
        exact (btX.trans bX5) c o nc hc
      · rw [upd_ne nll.symm]
        exact bX5 _ _ nlna hlnX
      · rw [List.map_append]
        exact dpAll_appI (dpAll_imm ((kX bX5).trans kl) hdX (immAll_map SRow.imm rs)) (.cons (dp_imm kl dRow (SRow.imm _)) .nil)
      · rcases List.mem_append.mp hr with h | h
        · exact hrs r h
        · rw [List.mem_singleton.mp h]
          exact okR
      · rw [List.map_append, hrn, List.take_add_one, hw]
        rfl
      · rw [upd_ne nla.symm]
        exact k35 _ _ ha3
    · rintro σ X ⟨y4, y5, y6, vs, rs, b2, rfl, btX, hlnX, hlX, hdX, hrl, hrs, hrn, hbX, hBX⟩
      refine ⟨_, rfl, q X l vs rs b2 btX nlH hlX hdX (by omega) ⟨hrs, ?_, by omega⟩ hbX (hBX.mono (by omega))⟩
      rw [hrn]
      exact List.Nodup.sublist (List.take_sublist _ _) hnd
end
/-! ### slices and sums of tuples -/
def rSlAny (K : PySem.W.Frag) : V → Option Int → Option Int → Hp → VK → Prop := fun x lo hi H Q => ∃ (a : Addr) (xs : List V), x = .ref a ∧ SqT K H a xs ∧ ∀ (H' : Hp) (p : Addr), Same H H' → SqT K H' p (cutV xs lo hi) → Q (.ref p) H'
theorem cut_whole {xs : List V} {lo hi : Option Int} (h : HT.sIx xs.length 0 lo = 0 ∧ HT.sIx xs.length xs.length hi = xs.length) : cutV xs lo hi = xs := by
  unfold cutV
  rw [h.1, h.2, List.drop_zero, Nat.sub_zero, List.take_length]
theorem sl_any {X : Cx} : SlR X (rSlAny X.K) := by
  intro pins s σ H x v vl vu lo hi sl Q I rx hs pl pu h
  obtain ⟨a, xs, ex, hS, q⟩ := h
  exact sl_tupA pins s σ H x v vl vu lo hi sl Q I rx hs pl pu ⟨a, xs, ex, hS, fun e => q H a (Same.refl H) (by rw [cut_whole e]; exact hS), fun _ p np => q _ p (same_upd np) (SqT.of upd_same)⟩
theorem dp_int {K : PySem.W.Frag} {H : Hp} {x : V} {j : Int} (h : Dp K H x (.int j)) : x = .int j := by
  cases h
  rfl
def rCatAny (K : PySem.W.Frag) : V → V → Hp → VK → Prop := fun x y H Q => ∃ (a b : Addr) (xs ys : List V), x = .ref a ∧ y = .ref b ∧ SqT K H a xs ∧ SqT K H b ys ∧ xs.length + ys.length ≤ sizeLine ∧ ∀ (H' : Hp) (p : Addr), Same H H' → SqT K H' p (xs ++ ys) → Q (.ref p) H'
theorem op_catAny {X : Cx} : OpR X (binaryOp .Add) (rCatAny X.K) := by
  intro pins s σ H x y v u Q I rx ry h
  obtain ⟨a, b, xs, ys, ex, ey, hX, hY, hl, q⟩ := h
  refine op_catA pins s σ H x y v u Q I rx ry ⟨a, b, xs, ys, ex, ey, hX, hY, hl, fun e => q H b (Same.refl H) (by rw [e]; exact hY), fun _ e => q H a (Same.refl H) (by rw [e, List.append_nil]; exact hX), fun _ _ p np => q _ p (same_upd np) (SqT.of upd_same)⟩
/-! ### rows of a grammar -/
structure MRow where
  nm : List Nat
  so : List Nat
  pt : List (List Nat)
def MRow.d (r : MRow) : PyData := .tuple [strD r.nm, strD r.so, .tuple (r.pt.map strD)]
def MRow.places (r : MRow) : List (List Nat) := r.so :: r.pt
inductive En where
  | sp (p : Nat) (w : List Nat)
  | kept (w : List Nat)
  deriving DecidableEq
def En.d : En → PyData
  | .sp p w => .tuple [.str "at", .int (p : Nat), strD w]
  | .kept w => .tuple [.str "kept", strD w]
inductive Od where
  | en (e : En)
  | own
  | num (n : Nat)
def Od.d : Od → PyData
  | .en e => e.d
  | .own => .tuple [.str "own"]
  | .num n => .tuple [.str "number", .int (n : Nat)]
structure RRow where
  ma : List Nat
  tg : En
  op : List Nat
  os : List Od
def RRow.d (r : RRow) : PyData := .tuple [strD r.ma, r.tg.d, strD r.op, .tuple (r.os.map Od.d)]
theorem MRow.imm (r : MRow) : Thr.imm r.d = true := by
  show (true && (true && (immAll (r.pt.map strD) && true))) = true
  rw [immAll_map strD_imm]
  rfl
theorem En.imm (e : En) : Thr.imm e.d = true := by cases e <;> rfl
theorem Od.imm (o : Od) : Thr.imm o.d = true := by
  cases o with
  | en e => exact e.imm
  | own => rfl
  | num n => rfl
theorem RRow.imm (r : RRow) : Thr.imm r.d = true := by
  show (true && (Thr.imm r.tg.d && (true && (immAll (r.os.map Od.d) && true)))) = true
  rw [r.tg.imm, immAll_map Od.imm]
  rfl
/-- a worth of a place -/
def AtOf (rs : List SRow) (mr : MRow) (p : Nat) (w : List Nat) (up : Bool) : Prop := ∃ k r, mr.places[p]? = some k ∧ r ∈ rs ∧ r.nm = k ∧ w ∈ (if up then r.up else r.dn)
def KeptOk (rs : List SRow) (mr : MRow) (w : List Nat) : Prop := NmOk w ∧ ∀ r ∈ rs, r.nm = mr.so → w ∉ r.dn ++ r.up
/-- what a rule may have as its target -/
def TgOk (rs : List SRow) (mr : MRow) : En → Prop
  | .sp p w => AtOf rs mr p w (decide (p = 0))
  | .kept w => KeptOk rs mr w
/-- what it may need -/
def FrOk (rs : List SRow) (mr : MRow) : En → Prop
  | .sp p w => AtOf rs mr p w (!decide (p = 0))
  | .kept w => KeptOk rs mr w
def OdOk (rs : List SRow) (mr : MRow) : Od → Prop
  | .en e => FrOk rs mr e
  | .own => True
  | .num n => n < 1000000
def sl (s : String) : List Nat := (Str.ofString s).cps.toList
theorem sl_S (s : String) : SX.S (sl s) = Str.ofString s := SX.S_tl _
def OPS4 : List (List Nat) := [sl "copy", sl "plus", sl "least", sl "most"]
def OPS8 : List (List Nat) := [sl "plus", sl "less", sl "times", sl "over", sl "rest", sl "same", sl "under", sl "pick"]
def opsOf (roof : Nat) : List (List Nat) := if roof = 0 then OPS4 ++ OPS8 else OPS4
def arOf (op : List Nat) : Nat := if op = sl "copy" then 1 else if op = sl "pick" then 3 else 2
def enName : En → List (List Nat)
  | .sp _ _ => []
  | .kept w => [w]
def odName : Od → List (List Nat)
  | .en e => enName e
  | _ => []
structure RulesOk (rs : List SRow) (mr : MRow) (roof : Nat) (ks : List (List Nat)) (ru : List RRow) : Prop where
  ma : ∀ r ∈ ru, r.ma = mr.nm
  tg : ∀ r ∈ ru, TgOk rs mr r.tg
  nd : (ru.map RRow.tg).Nodup
  op : ∀ r ∈ ru, r.op ∈ opsOf roof
  ar : ∀ r ∈ ru, r.os.length = arOf r.op
  os : ∀ r ∈ ru, ∀ o ∈ r.os, OdOk rs mr o
  k2 : ks.length ≤ 2
  kt : ∀ r ∈ ru, ∀ w ∈ enName r.tg, w ∈ ks
  ko : ∀ r ∈ ru, ∀ o ∈ r.os, ∀ w ∈ odName o, w ∈ ks
  le : ru.length ≤ 30
/-- what rules are made by -/
structure Cxt (K : PySem.W.Frag) (H : Hp) (a gd ph : Addr) (rowv wv : V) (rs : List SRow) (mr : MRow) (roof : Nat) (wb : Bool) (wn : Nat) (phs : List Nat → List (List Nat)) : Prop where
  g : ∃ kvs of ofk, H gd = some (.dK kvs) ∧ valV kvs (Sum.inr "cap") = some (.int (roof : Nat)) ∧ valV kvs (Sum.inr "of") = some (.ref of) ∧ H of = some (.dK ofk) ∧
    ∀ r ∈ rs, ∃ v, valV ofk (Sum.inr (SX.S r.nm)) = some v ∧ Dp K H v (.tuple [.tuple (r.dn.map strD), .tuple (r.up.map strD)])
  p : ∃ phk, H ph = some (.dK phk) ∧ ∀ r ∈ rs, ∃ pl, valV phk (Sum.inr (SX.S r.nm)) = some (.ref pl) ∧ pl ≠ a ∧ H pl = some (.lst (nmV (phs r.nm))) ∧ (phs r.nm).Perm (r.dn ++ r.up)
  row : Dp K H rowv mr.d
  wl : Dp K H wv (.tuple [.bool wb, .int (wn : Nat)])
  w0 : 0 < wn
  w1 : wn < 1000000
  sok : SortsOk rs
  so : ∀ k ∈ mr.places, ∃ r ∈ rs, r.nm = k
  p2 : mr.pt.length ≤ 2
  rf : roof ≤ 9
theorem Cxt.but {K : PySem.W.Frag} {H H' : Hp} {a gd ph : Addr} {rowv wv : V} {rs : List SRow} {mr : MRow} {roof : Nat} {wb : Bool} {wn : Nat} {phs : List Nat → List (List Nat)} {b : List V} (c : Cxt K H a gd ph rowv wv rs mr roof wb wn phs) (ha : H a = some (.lst b)) (t : But a H H') :
    Cxt K H' a gd ph rowv wv rs mr roof wb wn phs := by
  have k := KeepT.but ha t
  have nd : ∀ {d : Addr} {kv : List (Key × V)}, H d = some (.dK kv) → d ≠ a := fun {d kv} h z => by
    rw [z, ha] at h
    cases h
  obtain ⟨kvs, of, ofk, g1, g2, g3, g4, g5⟩ := c.g
  obtain ⟨phk, p1, p2⟩ := c.p
  refine ⟨⟨kvs, of, ofk, t _ _ (nd g1) g1, g2, g3, t _ _ (nd g4) g4, fun r hr => ?_⟩, ⟨phk, t _ _ (nd p1) p1, fun r hr => ?_⟩, dp_imm k c.row mr.imm, dp_imm k c.wl rfl, c.w0, c.w1, c.sok, c.so, c.p2, c.rf⟩
  · obtain ⟨v, h1, h2⟩ := g5 r hr
    refine ⟨v, h1, dp_imm k h2 ?_⟩
    show (immAll (r.dn.map strD) && (immAll (r.up.map strD) && true)) = true
    rw [immAll_map strD_imm, immAll_map strD_imm]
    rfl
  · obtain ⟨pl, h1, h2, h3, h4⟩ := p2 r hr
    exact ⟨pl, h1, h2, t _ _ h2 h3, h4⟩
/-- a row on the heap -/
theorem row_at {K : PySem.W.Frag} {H : Hp} {v : V} {mr : MRow} (h : Dp K H v mr.d) : ∃ q t, v = .ref q ∧ SqT K H q [.str (SX.S mr.nm), .str (SX.S mr.so), .ref t] ∧ SqT K H t (nmV mr.pt) := by
  cases h with
  | tup hS hA =>
    cases hA with
    | cons a1 hA =>
      cases hA with
      | cons a2 hA =>
        cases hA with
        | cons a3 hA =>
          cases hA
          cases a1
          cases a2
          cases a3 with
          | tup hS3 hA3 =>
            refine ⟨_, _, rfl, hS, ?_⟩
            have : ∀ {xs : List V} {ws : List (List Nat)}, DpAll K H xs (ws.map strD) → xs = nmV ws := fun {xs ws} => by
              induction ws generalizing xs with
              | nil => intro h; cases h; rfl
              | cons i is ih =>
                intro h
                cases h with
                | cons a b =>
                  cases a
                  rw [ih b]
                  rfl
            rw [← this hA3]
            exact hS3
theorem names_of {K : PySem.W.Frag} {H : Hp} {xs : List V} {ws : List (List Nat)} (h : DpAll K H xs (ws.map strD)) : xs = nmV ws := by
  induction ws generalizing xs with
  | nil => cases h; rfl
  | cons i is ih =>
    cases h with
    | cons a b =>
      cases a
      rw [ih b]
      rfl
def spRules (K : PySem.W.Frag) : Sp := fun vs H Q _ => ∃ (a gd ph : Addr) (rowv wv : V) (rs : List SRow) (mr : MRow) (roof : Nat) (wb : Bool) (wn : Nat) (phs : List Nat → List (List Nat)) (m : Nat) (b : List V), vs = [.ref a, .ref gd, rowv, .ref ph, wv] ∧ Cxt K H a gd ph rowv wv rs mr roof wb wn phs ∧ H a = some (.lst b) ∧ BoxL m b ∧ m + 700 < 900000 ∧
  ∀ (H' : Hp) (l : Addr) (vs' : List V) (ru : List RRow) (ks : List (List Nat)) (b' : List V), But a H H' → H l = none → H' l = some (.lst vs') → DpAll K H' vs' (ru.map RRow.d) → RulesOk rs mr roof ks ru → H' a = some (.lst b') → BoxL (m + 700) b' → Q (.ref l) H'
theorem dpAll_take {K : PySem.W.Frag} {H : Hp} : ∀ {vs : List V} {ds : List PyData} (k : Nat), DpAll K H vs ds → DpAll K H (vs.take k) (ds.take k)
  | _, _, 0, _ => .nil
  | _, _, k + 1, .nil => .nil
  | _, _, k + 1, .cons h a => .cons h (dpAll_take k a)
theorem dpAll_drop {K : PySem.W.Frag} {H : Hp} : ∀ {vs : List V} {ds : List PyData} (k : Nat), DpAll K H vs ds → DpAll K H (vs.drop k) (ds.drop k)
  | _, _, 0, h => h
  | _, _, k + 1, .nil => .nil
  | _, _, k + 1, .cons _ a => dpAll_drop k a
theorem ins_perm {α : Type} (xs : List α) (x : α) (k : Nat) : (xs.take k ++ [x] ++ xs.drop k).Perm (x :: xs) := by
  have h : (xs.take k ++ [x] ++ xs.drop k).Perm ([x] ++ xs.take k ++ xs.drop k) := List.Perm.append_right _ List.perm_append_comm
  rw [List.append_assoc [x], List.take_append_drop] at h
  exact h
/-- an end of the making -/
def EnOk (rs : List SRow) (mr : MRow) (ks : List (List Nat)) : En → Prop
  | .sp p w => ∃ k r, mr.places[p]? = some k ∧ r ∈ rs ∧ r.nm = k ∧ w ∈ r.dn ++ r.up
  | .kept w => KeptOk rs mr w ∧ w ∈ ks
theorem EnOk.mono {rs : List SRow} {mr : MRow} {ks ks' : List (List Nat)} (h : ∀ w ∈ ks, w ∈ ks') {e : En} (x : EnOk rs mr ks e) : EnOk rs mr ks' e := by
  cases e with
  | sp p w => exact x
  | kept w => exact ⟨x.1, h w x.2⟩
def NmSmall (w : List Nat) : Prop := ∀ c ∈ w, c < 128
theorem nm_small {w : List Nat} (h : NmOk w) : NmSmall w := fun c hc => by
  have := h.1.2.2 c hc
  unfold isLet at this
  simp only [Bool.and_eq_true, decide_eq_true_eq] at this
  omega
theorem str_ok {w : List Nat} (h : NmSmall w) : PyData.strOk (SX.S w) = true := by
  unfold PyData.strOk
  rw [Array.all_eq_true']
  intro c hc
  have : c ∈ w := by simpa using hc
  have := h c this
  exact decide_eq_true (by omega)
def enW : En → List Nat
  | .sp _ w => w
  | .kept w => w
theorem en_lay {e : En} (h : NmSmall (enW e)) : e.d.canLay0 = true ∧ e.d.depth = 1 := by
  cases e with
  | sp p w =>
    refine ⟨?_, rfl⟩
    show (PyData.strOk "at" && (true && (PyData.strOk (SX.S w) && true))) = true
    rw [show PyData.strOk (SX.S w) = true from str_ok h]
    decide +kernel
  | kept w =>
    refine ⟨?_, rfl⟩
    show (PyData.strOk "kept" && (PyData.strOk (SX.S w) && true)) = true
    rw [show PyData.strOk (SX.S w) = true from str_ok h]
    decide +kernel
theorem en_shape {e : En} (h : NmSmall (enW e)) : SeqAt.shaped e.d = true := by
  obtain ⟨h1, h2⟩ := en_lay h
  unfold SeqAt.shaped
  rw [h1, h2]
  rfl
theorem ens_lay : ∀ {es : List En}, (∀ e ∈ es, NmSmall (enW e)) → PyData.canLayAll0 (es.map En.d) = true ∧ PyData.depthAll (es.map En.d) ≤ 1
  | [], _ => ⟨rfl, Nat.zero_le _⟩
  | e :: es, h => by
    obtain ⟨h1, h2⟩ := en_lay (h e (List.mem_cons_self ..))
    obtain ⟨h3, h4⟩ := ens_lay (es := es) fun x hx => h x (List.mem_cons_of_mem _ hx)
    refine ⟨?_, ?_⟩
    · show (PyData.canLay0 e.d && PyData.canLayAll0 (es.map En.d)) = true
      rw [h1, h3]
      rfl
    · show max (PyData.depth e.d) (PyData.depthAll (es.map En.d)) ≤ 1
      omega
theorem ens_shape {es : List En} (h : ∀ e ∈ es, NmSmall (enW e)) : SeqAt.shaped (.list (es.map En.d)) = true := by
  obtain ⟨h1, h2⟩ := ens_lay h
  unfold SeqAt.shaped
  rw [show PyData.canLay0 (.list (es.map En.d)) = true from h1, decide_eq_true (show PyData.depth (.list (es.map En.d)) ≤ 64 from by
    show PyData.depthAll (es.map En.d) + 1 ≤ 64
    omega)]
  rfl
theorem en_eqv (e e' : En) : PyData.eqv e.d e'.d = decide (e = e') := by
  have hs : ∀ a b : List Nat, ((SX.S a : Str) == SX.S b) = decide (a = b) := fun a b => SX.S_beq_eq
  cases e with
  | sp p w =>
    cases e' with
    | sp p' w' =>
      show ((Str.ofString "at" == Str.ofString "at") && ((((p : Nat) : Int) == ((p' : Nat) : Int)) && ((SX.S w == SX.S w') && true))) = _
      rw [show (Str.ofString "at" == Str.ofString "at") = true by decide +kernel, hs w w', Bool.and_true, Bool.true_and, Bool.eq_iff_iff, Bool.and_eq_true, decide_eq_true_eq, decide_eq_true_eq, beq_iff_eq]
      constructor
      · rintro ⟨h1, h2⟩
        rw [Int.ofNat_inj.mp h1, h2]
      · intro h
        cases h
        exact ⟨rfl, rfl⟩
    | kept w' =>
      show ((Str.ofString "at" == Str.ofString "kept") && PyData.eqvAll [.int ((p : Nat) : Int), strD w] [strD w']) = _
      rw [show (Str.ofString "at" == Str.ofString "kept") = false by decide +kernel, Bool.false_and]
      rfl
  | kept w =>
    cases e' with
    | sp p' w' =>
      show ((Str.ofString "kept" == Str.ofString "at") && PyData.eqvAll [strD w] [.int ((p' : Nat) : Int), strD w']) = _
      rw [show (Str.ofString "kept" == Str.ofString "at") = false by decide +kernel, Bool.false_and]
      rfl
    | kept w' =>
      show ((Str.ofString "kept" == Str.ofString "kept") && ((SX.S w == SX.S w') && true)) = _
      rw [show (Str.ofString "kept" == Str.ofString "kept") = true by decide +kernel, hs w w', Bool.and_true, Bool.true_and, Bool.eq_iff_iff, decide_eq_true_eq, decide_eq_true_eq]
      constructor
      · intro h
        rw [h]
      · intro h
        cases h
        rfl
theorem ens_any (e : En) : ∀ es : List En, ((es.map En.d).any fun z => PyData.eqv z e.d) = decide (e ∈ es)
  | [] => rfl
  | x :: es => by
    rw [List.map_cons, List.any_cons, en_eqv, ens_any e es, Bool.eq_iff_iff, Bool.or_eq_true, decide_eq_true_eq, decide_eq_true_eq, decide_eq_true_eq, List.mem_cons]
    exact ⟨fun h => h.elim (fun z => .inl z.symm) .inr, fun h => h.elim (fun z => .inl z.symm) .inr⟩
theorem ens_nil (es : List En) : PyData.eqv (.list (es.map En.d)) (.list []) = decide (es = []) := by
  cases es <;> rfl
/-- an end on the heap -/
theorem en_at {K : PySem.W.Frag} {H : Hp} {v : V} {e : En} (h : Dp K H v e.d) : ∃ q, v = .ref q ∧ match e with
    | .sp p w => SqT K H q [.str "at", .int (p : Nat), .str (SX.S w)]
    | .kept w => SqT K H q [.str "kept", .str (SX.S w)] := by
  cases e with
  | sp p w =>
    cases h with
    | tup hS hA =>
      cases hA with
      | cons a1 hA =>
        cases hA with
        | cons a2 hA =>
          cases hA with
          | cons a3 hA =>
            cases hA
            cases a1
            cases a2
            cases a3
            exact ⟨_, rfl, hS⟩
  | kept w =>
    cases h with
    | tup hS hA =>
      cases hA with
      | cons a1 hA =>
        cases hA with
        | cons a2 hA =>
          cases hA
          cases a1
          cases a2
          exact ⟨_, rfl, hS⟩
theorem cutV_back (xs : List V) (k : Nat) : cutV xs (some (-1 - (k : Int))) none = xs.drop (xs.length - (k + 1)) := by
  unfold cutV
  rw [HT.sIx_none]
  have e : HT.sIx xs.length 0 (some (-1 - (k : Int))) = xs.length - (k + 1) := by
    show (if (-1 - (k : Int)) < 0 then ((-1 - (k : Int)) + (xs.length : Int)).toNat else min (-1 - (k : Int)).toNat xs.length) = _
    rw [if_pos (by omega)]
    omega
  rw [e, List.take_of_length_le (by rw [List.length_drop]; exact Nat.le_refl _)]
abbrev s__law_rules_for : Stmt := top 61
abbrev N__law_rules_for : List Str := ["_law_box", "_law_g", "_law_row", "_law_phases", "_law_wild", "_law_places", "_law_ends", "_law_rules", "_law_known", "_law_ops", "_law_at", "_law_place", "_law_name", "_law_free", "_law_end", "_law_op", "_law_some", "_law_operands", "_law_turn", "_law_way", "_law_one", "_law_worth"]
abbrev P__law_rules_for : List Str := ["_law_box", "_law_g", "_law_row", "_law_phases", "_law_wild"]
theorem sc__law_rules_for : FnScope N__law_rules_for P__law_rules_for (defScope s__law_rules_for) := ⟨rfl, rfl, rfl, by decide +kernel, rfl, by decide +kernel, by decide +kernel⟩
theorem hu65 {k : Nat} {A : Around} (r : Room k A) : A.units + 65 < cLine := by
  have := r.un
  omega
structure Ru (mg : Str → Option Value) : Prop where
  range : mg "range" = none
  list : mg "list" = none
  len : mg "len" = none
  int : mg "int" = none
  tuple : mg "tuple" = none
/-- what stands beside the ends -/
structure Lc (K : PySem.W.Frag) (H X : Hp) (a pt lr lk lo : Addr) (mr : MRow) (ops : List (List Nat)) : Prop where
  bt : But a H X
  pt : SqT K X pt (nmV mr.places)
  lr : X lr = some (.lst [])
  lk : X lk = some (.lst [])
  lo : X lo = some (.lst (nmV ops))
theorem Lc.go {K : PySem.W.Frag} {H X Y : Hp} {a pt lr lk lo : Addr} {mr : MRow} {ops : List (List Nat)} {b : List V} (h : Lc K H X a pt lr lk lo mr ops) (hb : X a = some (.lst b)) (nr : lr ≠ a) (nk : lk ≠ a) (no : lo ≠ a) (t : But a X Y) : Lc K H Y a pt lr lk lo mr ops :=
  ⟨h.bt.trans t, (KeepT.but hb t).seqT h.pt, t _ _ nr h.lr, t _ _ nk h.lk, t _ _ no h.lo⟩
/-- an end as it was drawn: so many rounds, these places in the last one -/
def Drawn (mr : MRow) (phs : List Nat → List (List Nat)) (i : Nat) (done : List Nat) : En → Prop
  | .sp p w => ∃ k t, mr.places[p]? = some k ∧ (phs k)[t]? = some w ∧ (t < i ∨ t = i ∧ p ∈ done)
  | .kept _ => False
/-- while the rules are drawn -/
structure Ls (K : PySem.W.Frag) (H Y : Hp) (a le lo lf : Addr) (vs us : List V) (es fs : List En) (ops : List (List Nat)) : Prop where
  bt : But a H Y
  le : Y le = some (.lst vs)
  de : DpAll K Y vs (es.map En.d)
  lf : Y lf = some (.lst us)
  df : DpAll K Y us (fs.map En.d)
  lo : Y lo = some (.lst (nmV ops))
theorem Ls.go {K : PySem.W.Frag} {H Y Z : Hp} {a le lo lf : Addr} {vs us b : List V} {es fs : List En} {ops : List (List Nat)} (h : Ls K H Y a le lo lf vs us es fs ops) (hb : Y a = some (.lst b)) (ne : le ≠ a) (nf : lf ≠ a) (no : lo ≠ a) (t : But a Y Z) : Ls K H Z a le lo lf vs us es fs ops :=
  have k := KeepT.but hb t
  ⟨h.bt.trans t, t _ _ ne h.le, dpAll_imm k h.de (immAll_map En.imm es), t _ _ nf h.lf, dpAll_imm k h.df (immAll_map En.imm fs), t _ _ no h.lo⟩
theorem Ls.put {K : PySem.W.Frag} {H Y : Hp} {a le lo lf r : Addr} {vs us rv rv' : List V} {es fs : List En} {ops : List (List Nat)} (h : Ls K H Y a le lo lf vs us es fs ops) (hr : Y r = some (.lst rv)) (ne : le ≠ r) (nf : lf ≠ r) (no : lo ≠ r) (nH : H r = none) : Ls K H (upd Y r (.lst rv')) a le lo lf vs us es fs ops := by
  have k : KeepT Y (upd Y r (.lst rv')) := KeepT.at_ hr lst_no
  refine ⟨fun c o nc hc => ?_, ?_, dpAll_imm k h.de (immAll_map En.imm es), ?_, dpAll_imm k h.df (immAll_map En.imm fs), ?_⟩
  · rw [upd_ne (ne_of_none hc nH)]
    exact h.bt c o nc hc
  · rw [upd_ne ne]; exact h.le
  · rw [upd_ne nf]; exact h.lf
  · rw [upd_ne no]; exact h.lo
/-- the rules so far, and what is known -/
structure Rst (rs : List SRow) (mr : MRow) (roof : Nat) (ks : List (List Nat)) (es fs : List En) (i j : Nat) (ru : List RRow) (kn : List En) : Prop where
  sub : (ru.map RRow.tg).Sublist (es.take j)
  ok : ∀ r ∈ ru, r.ma = mr.nm ∧ TgOk rs mr r.tg ∧ r.op ∈ opsOf roof ∧ r.os.length = arOf r.op ∧ ∀ o ∈ r.os, OdOk rs mr o ∧ ∀ w ∈ odName o, w ∈ ks
  kf : ∀ e ∈ kn, e ∈ fs
  kl : kn.length ≤ i
theorem dpAll_look {K : PySem.W.Frag} {H : Hp} {vs : List V} {es : List En} {i : Nat} {x : V} {e : En} (h : DpAll K H vs (es.map En.d)) (hx : vs[i]? = some x) (he : es[i]? = some e) : Dp K H x e.d := by
  obtain ⟨dd, hdd, hxd⟩ := dpAll_at h hx
  rw [List.getElem?_map, he] at hdd
  cases hdd
  exact hxd
def isK : En → Bool
  | .sp _ _ => false
  | .kept _ => true
theorem ifs_or {t1 t2 t3 : TT} {A B : TS} {D : Ends} {σ : L2.St} {H : Hp} {c1 c2 : Bool} (h1 : ∀ Q : Bool → Hp → Prop, (∀ c, c = c1 → Q c H) → t1 σ H Q) (h2 : ∀ Q : Bool → Hp → Prop, (∀ c, c = c2 → Q c H) → t2 σ H Q)
    (hA : (c1 || c2) = true → tIfS t3 A B D σ H) (hB : (c1 || c2) = false → B D σ H) : tIfS (tAnd (tOr t1 t2) t3) A B D σ H := by
  refine h1 _ ?_
  intro c hc
  rw [hc]
  cases c1 with
  | true => exact iteT (iteT (hA rfl))
  | false =>
    show t2 σ H _
    refine h2 _ ?_
    intro c hc
    rw [hc]
    cases c2 with
    | true => exact iteT (hA rfl)
    | false => exact hB rfl
theorem if_some {c : Bool} {ta tb : TE} {Q : VK} {σ : L2.St} {H : Hp} {u v : V} (ha : ∀ Q : VK, Q u H → ta σ H Q) (hb : ∀ Q : VK, Q v H → tb σ H Q) (h : Q (if c = true then u else v) H) : if c = true then ta σ H Q else tb σ H Q := by
  cases c with
  | true => exact ha _ h
  | false => exact hb _ h
theorem wild_at {K : PySem.W.Frag} {H : Hp} {v : V} {wb : Bool} {wn : Nat} (h : Dp K H v (.tuple [.bool wb, .int (wn : Nat)])) : ∃ q, v = .ref q ∧ SqT K H q [.bl wb, .int (wn : Nat)] := by
  cases h with
  | tup hS hA =>
    cases hA with
    | cons a1 hA =>
      cases hA with
      | cons a2 hA =>
        cases hA
        cases a1
        cases a2
        exact ⟨_, rfl, hS⟩
def AR : List (Key × V) := [(Sum.inr "copy", .int 1), (Sum.inr "pick", .int 3)]
theorem ar_get {roof : Nat} {op : List Nat} (h : op ∈ opsOf roof) : (valV (mergeK [] AR) (Sum.inr (SX.S op))).getD (.int 2) = .int ((arOf op : Nat) : Int) := by
  have h' : op ∈ OPS4 ++ OPS8 := by
    unfold opsOf at h
    split at h
    · exact h
    · exact List.mem_append_left _ h
  simp only [OPS4, OPS8, List.cons_append, List.nil_append, List.mem_cons, List.not_mem_nil, or_false] at h'
  rcases h' with rfl | rfl | rfl | rfl | rfl | rfl | rfl | rfl | rfl | rfl | rfl | rfl <;> (rw [sl_S]; rfl)
theorem ar_le (op : List Nat) : arOf op ≤ 3 := by
  unfold arOf
  split
  · decide
  · split <;> decide
theorem ops_len (roof : Nat) : 0 < (opsOf roof).length ∧ (opsOf roof).length ≤ 12 := by
  unfold opsOf
  split <;> exact ⟨by decide, by decide⟩
section
variable {P : Program} {w : World} {K : PySem.W.Frag} {mg : Str → Option Value} {base : Heap}
theorem ok_rules_for (T : Ru mg) (c_law_take : C8.Cal P w K mg base 1 "_law_take" spTake []) (c_law_named : C8.Cal P w K mg base 2 "_law_named" spNamed []) (c_law_strewn : C8.Cal P w K mg base 2 "_law_strewn" (spStrewn K) []) (c_law_one_of : C8.Cal P w K mg base 2 "_law_one_of" (spOneOf K) []) (c_law_number : C8.Cal P w K mg base 2 "_law_number" spNumber [])
    (D : Dd K mg "_law_rules_for" s__law_rules_for P__law_rules_for) : C8.Cal P w K mg base 3 "_law_rules_for" (spRules K) [] := by
  refine D.cal sc__law_rules_for (fun vs H Q E h => ?_) (fun f cdv A outer s H vs Q E hr h => ?_)
  · obtain ⟨a, gd, ph, rowv, wv, rs, mr, roof, wb, wn, phs, m, b, rfl, _⟩ := h
    rfl
  · obtain ⟨a, gd, ph, rowv, wv, rs, mr, roof, wb, wn, phs, m, b, rfl, cx, ha, hB, hm, q⟩ := h
    refine ⟨_, (C8.pss_cut (ps_asg (pe_tup (pa_cons (pe_op op_catAny (pe_tup (pa_cons (pe_ix ix_tup (pv 2) pe_int (fun _ _ => rfl)) pa_nil)) (pe_ix ix_tup (pv 2) pe_int (fun _ _ => rfl))) (pa_cons (pe_lst pa_nil) (pa_cons (pe_lst pa_nil) (pa_cons (pe_lst pa_nil) (pa_cons (pe_lst (pa_cons pe_str (pa_cons pe_str (pa_cons pe_str (pa_cons pe_str pa_nil))))) pa_nil)))))) (pg_tup rfl (pgs_cons (pg_name (i := 5) sc__law_rules_for.nd rfl (Or.inr rfl)) (pgs_cons (pg_name (i := 6) sc__law_rules_for.nd rfl (Or.inl rfl)) (pgs_cons (pg_name (i := 7) sc__law_rules_for.nd rfl (Or.inl rfl)) (pgs_cons (pg_name (i := 8) sc__law_rules_for.nd rfl (Or.inl rfl)) (pgs_cons (pg_name (i := 9) sc__law_rules_for.nd rfl (Or.inl rfl)) pgs_nil)))))))
        (C8.pss_cut (ps_if (pt_cmpR op_eq (pe_dget (hu_of hr) (pv 1) pe_str (fun _ _ => rfl)) pe_int (nomark _))
          (pss_one (ps_set (i := 9) sc__law_rules_for.nd rfl (Or.inl rfl) (pe_op op_cat (pv 9) (pe_lst (pa_cons pe_str (pa_cons pe_str (pa_cons pe_str (pa_cons pe_str (pa_cons pe_str (pa_cons pe_str (pa_cons pe_str (pa_cons pe_str pa_nil))))))))))))
          pss_nil)
        (C8.pss_cut (ps_for PassesOwn.never rfl (pi_range1 rfl T.range (pa_cons pe_int pa_nil)) (pg_name (i := 10) sc__law_rules_for.nd rfl (Or.inl rfl))
          (pss_one (ps_for PassesOwn.never rfl (pi_list (C8.pe_c c_law_strewn hr (by decide) (by rfl) (pa_cons (pv 0) (pa_cons (pe_listRg rfl (by rfl) T.list (prg_1 (by rfl) T.range (pe_callB call_len_seq (by rfl) T.len PySem.boot_len (pa_cons (pv 5) pa_nil)))) pa_nil)))) (pg_name (i := 11) sc__law_rules_for.nd rfl (Or.inr rfl))
          (pss_one (ps_set (i := 6) sc__law_rules_for.nd rfl (Or.inl rfl) (pe_op op_cat (pv 6) (pe_lc (own := [("_law_worth", 21)]) (by exact rfl) sc__law_rules_for.nd (pi_list (pe_slice sl_list (pe_dget (hu_of hr) (pv 3) (pe_ix ix_tup (pv 5) (pv 11) (fun _ _ => rfl)) (fun _ _ => rfl)) (po_some (pv 10)) (po_some (pe_op op_add (pv 10) pe_int)))) (blkOk_by (own := [("_law_worth", 21)]) (N := N__law_rules_for) (sc := defScope s__law_rules_for) (by decide +kernel)) (fun _ _ _ _ _ => (pg_name (i := 21) sc__law_rules_for.nd rfl (Or.inl rfl))) (fun _ _ _ _ _ => pts_nil) (fun _ _ _ _ _ => (pe_tup (pa_cons pe_str (pa_cons (pv 11) (pa_cons (pv 21) pa_nil))))))))))))
        (C8.pss_cut (ps_for PassesOwn.never rfl (pi_list (C8.pe_c c_law_named hr (by decide) (by rfl) (pa_cons (pv 0) (pa_cons (C8.pe_c c_law_take hr (by decide) (by rfl) (pa_cons (pv 0) (pa_cons pe_int pa_nil))) pa_nil)))) (pg_name (i := 12) sc__law_rules_for.nd rfl (Or.inl rfl))
          (pss_one (ps_if (pt_cmpR op_notIn_seq (pv 12) (pe_dget (hu_of hr) (pv 3) (pe_ix ix_tup (pv 2) pe_int (fun _ _ => rfl)) (fun _ _ => rfl)) (by with_unfolding_all rfl))
          (pss_one (ps_expr (pe_bm PySem.F.plainAttrs_list PySem.F.slot_list_insert PySem.F.type_list_insert mt_insert (pv 6) (pa_cons (C8.pe_c c_law_take hr (by decide) (by rfl) (pa_cons (pv 0) (pa_cons (pe_op op_add (pe_callB call_len_seq (by rfl) T.len PySem.boot_len (pa_cons (pv 6) pa_nil)) pe_int) pa_nil))) (pa_cons (pe_tup (pa_cons pe_str (pa_cons (pv 12) pa_nil))) pa_nil)))))
          pss_nil)))
        (C8.pss_cut (ps_set (i := 13) sc__law_rules_for.nd rfl (Or.inr rfl) (pe_lc (own := [("_law_end", 14)]) (by exact rfl) sc__law_rules_for.nd (pi_list (pv 6)) (blkOk_by (own := [("_law_end", 14)]) (N := N__law_rules_for) (sc := defScope s__law_rules_for) (by decide +kernel)) (fun _ _ _ _ _ => (pg_name (i := 14) sc__law_rules_for.nd rfl (Or.inl rfl))) (fun _ _ _ _ _ => (pts_one (PW.pt (pw_or (pt_cmpR op_eq (pe_ix (r := rIxT K) ix_tup (pv 14) pe_int (fun _ _ => rfl)) pe_str (nomark _)) (pw_or1 (pt_cmpR (r := rIn K true) op_notIn_seq (pe_ix (r := rIxT K) ix_tup (pv 14) pe_int (fun _ _ => rfl)) (pe_ix (r := rIxT K) ix_tup (pe_dget (hu_of hr) (pe_dget (hu_of hr) (pv 1) pe_str (fun _ _ => rfl)) (pe_ix (r := rIxT K) ix_tup (pv 5) (pe_ix (r := rIxT K) ix_tup (pv 14) pe_int (fun _ _ => rfl)) (fun _ _ => rfl)) (fun _ _ => rfl)) (pe_callTy call_int1 (by rfl) T.int (by decide +kernel) (pa_cons (pe_cmpR op_eq (pe_ix (r := rIxT K) ix_tup (pv 14) pe_int (fun _ _ => rfl)) pe_int (nomark _)) pa_nil)) (fun _ _ => rfl)) (by with_unfolding_all rfl))))))) (fun _ _ _ _ _ => (pv 14))))
        (pss_cons (ps_for PassesOwn.never rfl (pi_list (pv 6)) (pg_name (i := 14) sc__law_rules_for.nd rfl (Or.inl rfl))
          (C8.pss_cut (ps_if (PW.pt (pw_and (PW.pt (pw_or (pt_cmpR op_eq (pe_ix (r := rIxT K) ix_tup (pv 14) pe_int (fun _ _ => rfl)) pe_str (nomark _)) (pw_or1 (pt_cmpR (op_notInD (hu65 hr)) (pv 14) (pv 13) (by with_unfolding_all rfl))))) (pw_and1 (pt_cmpR op_gt (C8.pe_c c_law_take hr (by decide) (by rfl) (pa_cons (pv 0) (pa_cons (pe_ix ix_tup (pv 4) pe_int (fun _ _ => rfl)) pa_nil))) pe_int (nomark _)))))
          (pss_cons (ps_par3 rfl sc__law_rules_for.nd (i := 15) (j := 16) (l := 17) rfl rfl rfl (by decide) (by decide) (by decide) rfl rfl rfl (pa_cons (C8.pe_c c_law_one_of hr (by decide) (by rfl) (pa_cons (pv 0) (pa_cons (pv 9) pa_nil))) (pa_cons (pe_ifExp (pt_val (pe_ix ix_tup (pv 4) pe_int (fun _ _ => rfl))) (pv 13) (pv 8)) (pa_cons (pe_lst pa_nil) pa_nil))) (by rfl))
        (C8.pss_cut (ps_for PassesOwn.never rfl (pi_range1 rfl T.range (pa_cons (pe_dget2 (hu_of hr) (pe_disp (pps_cons pe_str pe_int (pps_cons pe_str pe_int pps_nil)) (by rfl) (by rfl) (fun z => by cases z) (by decide)) (pv 15) pe_int (by exact ⟨rfl, rfl, rfl, rfl⟩)) pa_nil)) (pg_name (i := 18) sc__law_rules_for.nd rfl (Or.inl rfl))
          (pss_cons (ps_set (i := 19) sc__law_rules_for.nd rfl (Or.inl rfl) (C8.pe_c c_law_take hr (by decide) (by rfl) (pa_cons (pv 0) (pa_cons pe_int pa_nil))))
        (pss_cons (ps_set (i := 20) sc__law_rules_for.nd rfl (Or.inl rfl) (pe_ix ix_list (pe_lst (pa_cons (pe_tup (pa_cons pe_str pa_nil)) (pa_cons (pe_tup (pa_cons pe_str (pa_cons (C8.pe_c c_law_number hr (by decide) (by rfl) (pa_cons (pv 0) pa_nil)) pa_nil))) pa_nil))) (pe_op op_mod (pv 19) pe_int) (fun _ _ => rfl)))
        (pss_one (ps_expr (pe_bm PySem.F.plainAttrs_list PySem.F.slot_list_append PySem.F.type_list_append mt_append (pv 17) (pa_cons (pe_ifExp (PW.pt (pw_and (pt_cmpR op_lt (pv 19) pe_int (nomark _)) (pw_and1 (pt_cmpR (op_neD hr.units) (pv 16) (pe_lst pa_nil) (nomark _))))) (C8.pe_c c_law_one_of hr (by decide) (by rfl) (pa_cons (pv 0) (pa_cons (pe_slice sl_list (pv 16) (po_some (pe_op op_sub (pe_un un_neg pe_int) (pv 19))) po_none) pa_nil))) (pv 20)) pa_nil)))))))
        (pss_one (ps_expr (pe_bm PySem.F.plainAttrs_list PySem.F.slot_list_append PySem.F.type_list_append mt_append (pv 7) (pa_cons (pe_tup (pa_cons (pe_ix ix_tup (pv 2) pe_int (fun _ _ => rfl)) (pa_cons (pv 14) (pa_cons (pv 15) (pa_cons (pe_callTy call_tuple_of (by rfl) T.tuple (by decide +kernel) (pa_cons (pv 17) pa_nil)) pa_nil))))) pa_nil))))))
          pss_nil)
        (pss_one (ps_set (i := 8) sc__law_rules_for.nd rfl (Or.inl rfl) (pe_op op_cat (pv 8) (pe_lc (own := [("_law_one", 20)]) (by exact rfl) sc__law_rules_for.nd (pi_list (pe_lst (pa_cons (pv 14) pa_nil))) (blkOk_by (own := [("_law_one", 20)]) (N := N__law_rules_for) (sc := defScope s__law_rules_for) (by decide +kernel)) (fun _ _ _ _ _ => (pg_name (i := 20) sc__law_rules_for.nd rfl (Or.inl rfl))) (fun _ _ _ _ _ => (pts_one (pt_cmpR (r := rInD K) (op_inD (hu65 hr)) (pv 20) (pv 13) (by with_unfolding_all rfl)))) (fun _ _ _ _ _ => (pv 20))))))))
        (pss_one (ps_ret (pv 7))))))))), ?_⟩
    -- places, ends, rules, known, ops
    refine ⟨fun σ X => ∃ pt le lr lk lo, σ = [some (.ref a), some (.ref gd), some rowv, some (.ref ph), some wv, some (.ref pt), some (.ref le), some (.ref lr), some (.ref lk), some (.ref lo), none, none, none, none, none, none, none, none, none, none, none, none] ∧ Lc K H X a pt lr lk lo mr OPS4 ∧ X le = some (.lst []) ∧ X a = some (.lst b) ∧ H le = none ∧ H lr = none ∧ H lk = none ∧ H lo = none ∧ le ≠ lr ∧ le ≠ lk ∧ le ≠ lo ∧ lr ≠ lk ∧ lr ≠ lo, ?_, ?_⟩
    · obtain ⟨rq, rt, rfl, hr1, hr2⟩ := row_at cx.row
      refine ⟨_, rfl, rq, _, 1, .str (SX.S mr.so), rfl, rfl, hr1, atI_nat (j := 1) rfl, by show 1 ≤ sizeLine; decide, fun t1 n1 => ?_⟩
      have g1 := same_upd (o := .tup [.str (SX.S mr.so)]) n1
      refine ⟨_, rfl, rq, _, 2, .ref rt, rfl, rfl, Same.seqT g1 hr1, atI_nat (j := 2) rfl, t1, rt, _, _, rfl, rfl, SqT.of upd_same, Same.seqT g1 hr2, ?_, fun H2 pt s2 hpt => ?_⟩
      · rw [nmV_len]
        have := cx.p2
        exact Nat.le_trans (show _ ≤ 3 from by show 1 + mr.pt.length ≤ 3; omega) (by decide)
      have s12 := g1.trans s2
      refine ⟨by show 0 ≤ sizeLine; decide, fun le nle => ⟨by show 0 ≤ sizeLine; decide, fun lr nlr => ⟨by show 0 ≤ sizeLine; decide, fun lk nlk => ⟨by show 4 ≤ sizeLine; decide, fun lo nlo => ⟨by show 5 ≤ sizeLine; decide, fun tp ntp => ?_⟩⟩⟩⟩⟩
      refine ⟨tp, _, rfl, SqT.of upd_same, rfl, _, _, rfl, _, _, rfl, _, _, rfl, _, _, rfl, _, _, rfl, rfl, ?_⟩
      have h1 := same_upd (o := .lst []) nle
      have h2 := same_upd (o := .lst []) nlr
      have h3 := same_upd (o := .lst []) nlk
      have h4 := same_upd (o := .lst (nmV OPS4)) nlo
      have h5 := same_upd (o := .tup [.ref pt, .ref le, .ref lr, .ref lk, .ref lo]) ntp
      have sA := (((h1.trans h2).trans h3).trans h4).trans h5
      refine ⟨pt, le, lr, lk, lo, rfl, ⟨But.of (s12.trans sA), Same.seqT sA hpt, h5 _ _ (h4 _ _ (h3 _ _ upd_same)), h5 _ _ (h4 _ _ upd_same), h5 _ _ upd_same⟩, h5 _ _ (h4 _ _ (h3 _ _ (h2 _ _ upd_same))), (s12.trans sA) _ _ ha, s12.free nle, (s12.trans h1).free nlr, (s12.trans (h1.trans h2)).free nlk, (s12.trans ((h1.trans h2).trans h3)).free nlo, ne_of_none upd_same nlr, ne_of_none (h2 _ _ upd_same) nlk, ne_of_none (h3 _ _ (h2 _ _ upd_same)) nlo, ne_of_none upd_same nlk, ne_of_none (h3 _ _ upd_same) nlo⟩
    rintro σ X0 ⟨pt, le0, lr, lk, lo0, rfl, lc0, hle0, hb0, nle0, nlr, nlk, nlo0, d1, d2, d3, d4, d5⟩
    have off : ∀ {x : Addr}, H x = none → x ≠ a := fun {x} h z => by
      rw [z, ha] at h
      cases h
    -- ops
    refine ⟨fun σ X => ∃ lo, σ = [some (.ref a), some (.ref gd), some rowv, some (.ref ph), some wv, some (.ref pt), some (.ref le0), some (.ref lr), some (.ref lk), some (.ref lo), none, none, none, none, none, none, none, none, none, none, none, none] ∧ Lc K H X a pt lr lk lo mr (opsOf roof) ∧ X le0 = some (.lst []) ∧ X a = some (.lst b) ∧ H lo = none ∧ le0 ≠ lo ∧ lr ≠ lo, ?_, ?_⟩
    · obtain ⟨kvs, of, ofk, q1, q2, q3, q4, q5⟩ := (cx.but ha lc0.bt).g
      refine ⟨_, rfl, gd, .int (roof : Nat), rfl, by have h := DGet.k (k := Sum.inr "cap") q1; rw [q2] at h; exact h, rfl, _, rfl, ?_⟩
      by_cases hz : roof = 0
      · refine ifT (decide_eq_true (congrArg V.int (by omega))) ?_
        refine ⟨_, rfl, by show 8 ≤ sizeLine; decide, fun l8 n8 => ?_⟩
        have g8 := same_upd (o := .lst (nmV OPS8)) n8
        refine ⟨lo0, l8, _, _, rfl, rfl, g8 _ _ lc0.lo, upd_same, by show 12 ≤ sizeLine; decide, fun lo nlo => ?_⟩
        have g9 := same_upd (o := .lst (nmV OPS4 ++ nmV OPS8)) nlo
        have sA := g8.trans g9
        refine ⟨lo, rfl, ⟨lc0.bt.trans (But.of sA), Same.seqT sA lc0.pt, sA _ _ lc0.lr, sA _ _ lc0.lk, ?_⟩, sA _ _ hle0, sA _ _ hb0, ?_, ne_of_none (g8 _ _ hle0) nlo, ne_of_none (g8 _ _ lc0.lr) nlo⟩
        · have e : nmV (opsOf roof) = nmV OPS4 ++ nmV OPS8 := by
            unfold opsOf
            rw [if_pos hz]
            exact List.map_append
          rw [e]
          exact upd_same
        · exact But.free (lc0.bt.trans (But.of g8)) (g8 _ _ hb0) nlo
      · refine ifF (decide_eq_false (fun y => hz (by have := V.int.inj y; omega))) ?_
        have e : opsOf roof = OPS4 := if_neg hz
        exact ⟨lo0, rfl, by rw [e]; exact lc0, hle0, hb0, nlo0, d3, d5⟩
    rintro σ X1 ⟨lo, rfl, lc1, hle1, hb1, nlo, d6, d7⟩
    have nra := off nlr
    have nka := off nlk
    have noa := off nlo
    have pl3 : mr.places.length ≤ 3 := by
      have := cx.p2
      unfold MRow.places
      rw [List.length_cons]
      omega
    -- the ends of all places
    refine ⟨fun σ X => ∃ (y10 y11 : Option V) (le : Addr) (vs : List V) (es : List En) (b' : List V), σ = [some (.ref a), some (.ref gd), some rowv, some (.ref ph), some wv, some (.ref pt), some (.ref le), some (.ref lr), some (.ref lk), some (.ref lo), y10, y11, none, none, none, none, none, none, none, none, none, none] ∧ Lc K H X a pt lr lk lo mr (opsOf roof) ∧ X le = some (.lst vs) ∧ DpAll K X vs (es.map En.d) ∧ es.Nodup ∧ (∀ e ∈ es, Drawn mr phs 3 [] e) ∧ es.length ≤ 9 ∧ X a = some (.lst b') ∧ BoxL (m + 9) b' ∧ H le = none ∧ le ≠ lr ∧ le ≠ lk ∧ le ≠ lo, ?_, ?_⟩
    · refine ⟨3, rfl, by decide, by decide, for_range (lo := 0) (n := Int.toNat 3) (fun i σ X => ∃ (y10 y11 : Option V) (le : Addr) (vs : List V) (es : List En) (b' : List V), σ = [some (.ref a), some (.ref gd), some rowv, some (.ref ph), some wv, some (.ref pt), some (.ref le), some (.ref lr), some (.ref lk), some (.ref lo), y10, y11, none, none, none, none, none, none, none, none, none, none] ∧ Lc K H X a pt lr lk lo mr (opsOf roof) ∧ X le = some (.lst vs) ∧ DpAll K X vs (es.map En.d) ∧ es.Nodup ∧ (∀ e ∈ es, Drawn mr phs i [] e) ∧ es.length ≤ 3 * i ∧ X a = some (.lst b') ∧ BoxL (m + 3 * i) b' ∧ H le = none ∧ le ≠ lr ∧ le ≠ lk ∧ le ≠ lo)
        ⟨none, none, le0, [], [], b, rfl, lc1, hle1, .nil, List.nodup_nil, (fun e h => nomatch h), Nat.le_refl _, hb1, hB, nle0, d1, d2, d6⟩ ?_ ?_⟩
      · rintro i σ X hi ⟨y10, y11, le, vs, es, b2, rfl, lc, hle, hds, hnd, hdr, hel, hb, hBx, nle, e1, e2, e3⟩
        have hi : i < 3 := hi
        refine ⟨_, rfl, _, rfl, pt, _, rfl, .inr lc.pt, _, rfl, ⟨by decide, by decide, by omega, by rw [nmV_len]; omega, by rw [nmV_len]; omega⟩, fun q1 nq1 => ?_⟩
        have g1 := same_upd (o := .lst (rgV 0 ((nmV mr.places).length : Int))) nq1
        have nq1a : q1 ≠ a := fun z => by
          rw [z, hb] at nq1
          cases nq1
        have lrg : (rgV 0 ((nmV mr.places).length : Int)).length = mr.places.length := by
          rw [rgV_length, nmV_len]
          omega
        refine ⟨a, q1, _, b2, _, rfl, g1 _ _ hb, hBx, by omega, SqL.of upd_same, nq1a, by omega, fun X2 ls ys b3 bt2 nls hls hperm hb3 hB3 => ?_⟩
        have erg : rgV 0 ((nmV mr.places).length : Int) = (List.range mr.places.length).map fun i : Nat => V.int ((i : Nat) : Int) := by
          unfold rgV
          rw [nmV_len, Int.sub_zero, Int.toNat_natCast]
          congr 1
          funext x
          rw [Int.zero_add]
        obtain ⟨ps, eps, hps⟩ := perm_map hperm (List.range mr.places.length) erg
        subst eps
        have psn : ps.Nodup := hps.nodup_iff.mpr List.nodup_range
        have psl : ps.length = mr.places.length := by rw [hps.length_eq, List.length_range]
        have bXX2 : But a X X2 := (But.of g1).trans bt2
        have lc2 := lc.go hb nra nka noa bXX2
        have nle2 := off nle
        have hle2 := bXX2 _ _ nle2 hle
        have kT2 := KeepT.but hb bXX2
        have nlsX : X ls = none := g1.free nls
        have e4 : ls ≠ le := fun z => by
          rw [z, hle] at nlsX
          cases nlsX
        refine ⟨ls, rfl, ⟨_, SqL.of hls⟩, for_list (K := K) (a := ls) (xs := ps.map fun i : Nat => V.int ((i : Nat) : Int)) (fun j σ Y => ∃ (y11 : Option V) (le : Addr) (vs : List V) (es : List En), σ = [some (.ref a), some (.ref gd), some rowv, some (.ref ph), some wv, some (.ref pt), some (.ref le), some (.ref lr), some (.ref lk), some (.ref lo), some (.int (0 + (i : Nat))), y11, none, none, none, none, none, none, none, none, none, none] ∧ Lc K H Y a pt lr lk lo mr (opsOf roof) ∧ Y le = some (.lst vs) ∧ DpAll K Y vs (es.map En.d) ∧ es.Nodup ∧ (∀ e ∈ es, Drawn mr phs i (ps.take j) e) ∧ es.length ≤ 3 * i + j ∧ Y a = some (.lst b3) ∧ Y ls = some (.lst (ps.map fun i : Nat => V.int ((i : Nat) : Int))) ∧ H le = none ∧ le ≠ lr ∧ le ≠ lk ∧ le ≠ lo)
          ⟨y11, le, vs, es, rfl, lc2, hle2, dpAll_imm kT2 hds (immAll_map En.imm es), hnd, fun e he => ?_, by omega, hb3, hls, nle, e1, e2, e3⟩ (fun j σ Y _ ⟨_, _, _, _, _, _, _, _, _, _, _, _, h, _⟩ => SqL.of h) ?_ ?_⟩
        · have h := hdr e he
          cases e with
          | kept w => exact h.elim
          | sp p w =>
            obtain ⟨k, t, h1, h2, h3⟩ := h
            exact ⟨k, t, h1, h2, h3.elim .inl (fun z => nomatch z.2)⟩
        · rintro j x σ Y hx ⟨y11, le, vs, es, rfl, lcY, hleY, hdsY, hndY, hdrY, helY, hbY, hlsY, nleY, f1, f2, f3⟩
          obtain ⟨p, hp, rfl⟩ : ∃ p : Nat, ps[j]? = some p ∧ x = V.int ((p : Nat) : Int) := by
            rw [List.getElem?_map] at hx
            cases e : ps[j]? with
            | none => rw [e] at hx; cases hx
            | some p => rw [e] at hx; exact ⟨p, rfl, (Option.some.inj hx).symm⟩
          have hjl : j < ps.length := (List.getElem?_eq_some_iff.mp hp).1
          have hpl : p < mr.places.length := by
            have := hps.mem_iff.mp (List.mem_of_getElem? hp)
            exact List.mem_range.mp this
          obtain ⟨k, hk⟩ : ∃ k, mr.places[p]? = some k := ⟨mr.places[p], List.getElem?_eq_getElem hpl⟩
          obtain ⟨r, hr1, hr2⟩ := cx.so k (List.mem_of_getElem? hk)
          have cY := cx.but ha lcY.bt
          obtain ⟨phk, p1, p2⟩ := cY.p
          obtain ⟨pl, h1, h2, h3, h4⟩ := p2 r hr1
          rw [hr2] at h1 h3 h4
          refine ⟨_, rfl, _, rfl, _, rfl, _, rfl, pt, _, _, _, rfl, rfl, lcY.pt, atI_nat (nmV_at hk), ph, .ref pl, rfl, by have h := DGet.k (k := Sum.inr (SX.S k)) p1; rw [h1] at h; exact h, ?_⟩
          refine ⟨_, rfl, _, rfl, _, rfl, _, _, rfl, rfl, _, rfl, pl, _, rfl, SqL.of h3, fun c nc => ?_⟩
          have ec : cutV (nmV (phs k)) (some (0 + (i : Nat) : Int)) (some (0 + (i : Nat) + 1 : Int)) = nmV (((phs k).drop i).take 1) := by
            rw [Int.zero_add, show ((i : Nat) : Int) + 1 = ((i + 1 : Nat) : Int) by omega, cutV_nat, show i + 1 - i = 1 by omega, nmV_drop, nmV_take]
          have k1 := same_upd (o := .lst (cutV (nmV (phs k)) (some (0 + (i : Nat) : Int)) (some (0 + (i : Nat) + 1 : Int)))) nc
          have hc := upd_same (H := Y) (a := c) (o := .lst (cutV (nmV (phs k)) (some (0 + (i : Nat) : Int)) (some (0 + (i : Nat) + 1 : Int))))
          obtain ⟨Y1, eY1⟩ : ∃ Y1, Y1 = upd Y c (.lst (cutV (nmV (phs k)) (some (0 + (i : Nat) : Int)) (some (0 + (i : Nat) + 1 : Int)))) := ⟨_, rfl⟩
          rw [← eY1] at k1 hc ⊢
          rw [ec] at hc
          obtain ⟨wl, ewl⟩ : ∃ wl, wl = ((phs k).drop i).take 1 := ⟨_, rfl⟩
          rw [← ewl] at hc
          refine ⟨c, rfl, ⟨_, SqL.of hc⟩, fun D nD => ?_⟩
          refine lc_list (K := K) (a := c) (xs := nmV wl) (fun j H' => Same Y1 H' ∧ ∃ us, H' D = some (.lst us) ∧ DpAll K H' us (((wl.take j).map (En.sp p)).map En.d)) ⟨same_upd nD, [], upd_same, .nil⟩ (fun j H' _ h => SqL.of (h.1 _ _ hc)) ?_ ?_
          · rintro t v Z hv ⟨sZ, us, hD, hus⟩
            obtain ⟨wd, hwd, rfl⟩ : ∃ wd, wl[t]? = some wd ∧ v = V.str (SX.S wd) := by
              unfold nmV at hv
              rw [List.getElem?_map] at hv
              cases e : wl[t]? with
              | none => rw [e] at hv; cases hv
              | some u => rw [e] at hv; exact ⟨u, rfl, (Option.some.inj hv).symm⟩
            have hlen := dpAll_len hus
            rw [List.length_map, List.length_map, List.length_take] at hlen
            have wl1 : wl.length ≤ 1 := by
              rw [ewl, List.length_take]
              omega
            refine ⟨rfl, yesT ?_⟩
            refine ⟨_, rfl, _, rfl, by show 3 ≤ sizeLine; decide, fun tq ntq => ?_⟩
            have k2 := same_upd (o := .tup [.str "at", .int (p : Nat), .str (SX.S wd)]) ntq
            refine ⟨us, k2 _ _ hD, small1000 (by omega), Same.at_ (sZ.trans k2) nD, us ++ [.ref tq], upd_same, ?_⟩
            rw [List.take_add_one, hwd, List.map_append, List.map_append]
            have kl : KeepT (upd Z tq (.tup [.str "at", .int (p : Nat), .str (SX.S wd)])) (upd (upd Z tq (.tup [.str "at", .int (p : Nat), .str (SX.S wd)])) D (.lst (us ++ [.ref tq]))) := KeepT.at_ (k2 _ _ hD) lst_no
            exact dpAll_appI (dpAll_imm ((KeepT.of k2).trans kl) hus (immAll_map En.imm _)) (.cons (dp_imm kl (.tup (SqT.of upd_same) (.cons (.str _) (.cons (.int _) (.cons (.str _) .nil)))) rfl) .nil)
          rintro Z ⟨sZ, us, hD, hus⟩
          rw [nmV_len, List.take_length] at hus
          have sYZ := k1.trans sZ
          have lv := dpAll_len hdsY
          rw [List.length_map] at lv
          have lu := dpAll_len hus
          rw [List.length_map, List.length_map] at lu
          have wl1 : wl.length ≤ 1 := by
            rw [ewl, List.length_take]
            omega
          refine ⟨le, D, _, _, rfl, rfl, sYZ _ _ hleY, hD, Nat.le_trans (show _ ≤ 100 from by omega) (by decide), fun le' nle' => ?_⟩
          have k3 := same_upd (o := .lst (vs ++ us)) nle'
          have sA := sYZ.trans k3
          have nleH' : H le' = none := But.free (lcY.bt.trans (But.of sYZ)) (sYZ _ _ hbY) nle'
          refine ⟨_, le', vs ++ us, es ++ wl.map (En.sp p), rfl, lcY.go hbY nra nka noa (But.of sA), upd_same, ?_, ?_, fun e he => ?_, ?_, sA _ _ hbY, sA _ _ hlsY, nleH', ?_, ?_, ?_⟩
          · rw [List.map_append]
            exact dpAll_appI (dpAll_same sA hdsY) (dpAll_same k3 hus)
          · rw [List.nodup_append]
            refine ⟨hndY, ?_, fun x hx y hy e => ?_⟩
            · cases wl with
              | nil => exact List.nodup_nil
              | cons u r =>
                cases r with
                | nil => simp
                | cons _ _ => simp at wl1
            · subst e
              obtain ⟨u, hu, rfl⟩ := List.mem_map.mp hy
              obtain ⟨k', t, g1, g2, g3⟩ := hdrY _ hx
              rw [hk] at g1
              cases g1
              have hui : (phs k)[i]? = some u := by
                rw [ewl] at hu
                cases ed : (phs k).drop i with
                | nil =>
                  rw [ed] at hu
                  cases hu
                | cons v r =>
                  rw [ed] at hu
                  have : u = v := by simpa using hu
                  subst this
                  have := List.getElem?_drop (xs := phs k) (i := i) (j := 0)
                  rw [ed] at this
                  exact this.symm
              have nd : (phs k).Nodup := h4.nodup_iff.mpr ((cx.sok.ok r hr1).nd)
              rcases g3 with g3 | ⟨rfl, g3⟩
              · have := (List.getElem?_inj (by
                  rcases List.getElem?_eq_some_iff.mp hui with ⟨hh, _⟩
                  omega) nd).mp (g2.trans hui.symm)
                omega
              · obtain ⟨s1, hs1, hs2⟩ := List.getElem_of_mem g3
                rw [List.length_take] at hs1
                rw [List.getElem_take] at hs2
                have hs3 : ps[s1]? = some p := by
                  rw [List.getElem?_eq_getElem (by omega), hs2]
                have := (List.getElem?_inj (by omega) psn).mp (hs3.trans hp.symm)
                omega
          · rcases List.mem_append.mp he with he | he
            · have h := hdrY e he
              cases e with
              | kept w => exact h.elim
              | sp p' w =>
                obtain ⟨k', t, g1, g2, g3⟩ := h
                refine ⟨k', t, g1, g2, g3.elim .inl fun z => .inr ⟨z.1, ?_⟩⟩
                rw [List.take_add_one]
                exact List.mem_append_left _ z.2
            · obtain ⟨u, hu, rfl⟩ := List.mem_map.mp he
              refine ⟨k, i, hk, ?_, .inr ⟨rfl, ?_⟩⟩
              · rw [ewl] at hu
                cases ed : (phs k).drop i with
                | nil =>
                  rw [ed] at hu
                  cases hu
                | cons v r =>
                  rw [ed] at hu
                  have : u = v := by simpa using hu
                  subst this
                  have := List.getElem?_drop (xs := phs k) (i := i) (j := 0)
                  rw [ed] at this
                  exact this.symm
              · rw [List.take_add_one, hp]
                exact List.mem_append_right _ (by simp)
          · rw [List.length_append, List.length_map]
            omega
          · exact fun z => by
              have := sYZ _ _ lcY.lr
              rw [← z, nle'] at this
              cases this
          · exact fun z => by
              have := sYZ _ _ lcY.lk
              rw [← z, nle'] at this
              cases this
          · exact fun z => by
              have := sYZ _ _ lcY.lo
              rw [← z, nle'] at this
              cases this
        · rintro σ Y ⟨y11, le, vs, es, rfl, lcY, hleY, hdsY, hndY, hdrY, helY, hbY, hlsY, nleY, f1, f2, f3⟩
          refine ⟨_, _, le, vs, es, b3, rfl, lcY, hleY, hdsY, hndY, fun e he => ?_, by rw [List.length_map] at helY; omega, hbY, hB3.mono (by rw [lrg]; omega), nleY, f1, f2, f3⟩
          have h := hdrY e he
          cases e with
          | kept w => exact h.elim
          | sp p w =>
            obtain ⟨k, t, h1, h2, h3⟩ := h
            exact ⟨k, t, h1, h2, .inl (by rcases h3 with h3 | h3 <;> omega)⟩
      · rintro σ X ⟨y10, y11, le, vs, es, b2, rfl, lc, hle, hds, hnd, hdr, hel, hb, hBx, nle, e1, e2, e3⟩
        exact ⟨_, _, le, vs, es, b2, rfl, lc, hle, hds, hnd, hdr, hel, hb, hBx, nle, e1, e2, e3⟩
    rintro σ X2 ⟨y10, y11, le, vs2, es2, b2, rfl, lc2, hle2, hds2, hnd2, hdr2, hel2, hb2, hB2, nle, e1, e2, e3⟩
    have nea := off nle
    have eok2 : ∀ e ∈ es2, EnOk rs mr [] e := fun e he => by
      have h := hdr2 e he
      cases e with
      | kept w => exact h.elim
      | sp p w =>
        obtain ⟨k, t, h1, h2, _⟩ := h
        obtain ⟨r, hr1, hr2⟩ := cx.so k (List.mem_of_getElem? h1)
        obtain ⟨phk, _, p2⟩ := cx.p
        obtain ⟨pl, _, _, _, hp⟩ := p2 r hr1
        rw [hr2] at hp
        exact ⟨k, r, h1, hr1, hr2, hp.mem_iff.mp (List.mem_of_getElem? h2)⟩
    -- the kept ones
    refine ⟨fun σ X => ∃ (y12 : Option V) (vs : List V) (es : List En) (ks : List (List Nat)) (b' : List V), σ = [some (.ref a), some (.ref gd), some rowv, some (.ref ph), some wv, some (.ref pt), some (.ref le), some (.ref lr), some (.ref lk), some (.ref lo), y10, y11, y12, none, none, none, none, none, none, none, none, none] ∧ Lc K H X a pt lr lk lo mr (opsOf roof) ∧ X le = some (.lst vs) ∧ DpAll K X vs (es.map En.d) ∧ es.Nodup ∧ ks.length ≤ 2 ∧ (∀ e ∈ es, EnOk rs mr ks e) ∧ es.length ≤ 11 ∧ X a = some (.lst b') ∧ BoxL (m + 40) b', ?_, ?_⟩
    · refine ⟨_, rfl, _, rfl, a, 3, _, b2, rfl, hb2, hB2, by omega, by decide, by decide, fun r0 b3 h0 h0' hB3 => ?_⟩
      obtain ⟨n0, rfl⟩ := Int.eq_ofNat_of_zero_le h0
      have bX3 : But a X2 (upd X2 a (.lst b3)) := But.upd (But.refl a X2)
      have ha3 : (upd X2 a (.lst b3)) a = some (.lst b3) := upd_same
      obtain ⟨X3, e3'⟩ : ∃ X3, X3 = upd X2 a (.lst b3) := ⟨_, rfl⟩
      rw [← e3'] at bX3 ha3 ⊢
      refine ⟨a, n0, _, b3, rfl, by omega, ha3, hB3, by omega, fun X4 ln ws b4 bt4 nln hln hwl hwn hws hb4 hB4 => ?_⟩
      have bX4 := bX3.trans bt4
      have lc4 := lc2.go hb2 nra nka noa bX4
      have hle4 := bX4 _ _ nea hle2
      have kT4 := KeepT.but hb2 bX4
      have nlnX2 : X2 ln = none := But.free bX3 ha3 nln
      have nlne : ln ≠ le := fun z => by
        rw [z, hle2] at nlnX2
        cases nlnX2
      have nlna : ln ≠ a := fun z => by
        rw [z, hb2] at nlnX2
        cases nlnX2
      refine ⟨ln, rfl, ⟨_, SqL.of hln⟩, for_list (K := K) (a := ln) (xs := nmV ws) (fun j σ Y => ∃ (y12 : Option V) (vs : List V) (es : List En) (b' : List V), σ = [some (.ref a), some (.ref gd), some rowv, some (.ref ph), some wv, some (.ref pt), some (.ref le), some (.ref lr), some (.ref lk), some (.ref lo), y10, y11, y12, none, none, none, none, none, none, none, none, none] ∧ Lc K H Y a pt lr lk lo mr (opsOf roof) ∧ Y le = some (.lst vs) ∧ DpAll K Y vs (es.map En.d) ∧ es.Nodup ∧ (∀ e ∈ es, EnOk rs mr (ws.take j) e) ∧ es.length ≤ 9 + j ∧ Y a = some (.lst b') ∧ BoxL (m + 9 + 1 + 10 * n0 + j) b' ∧ Y ln = some (.lst (nmV ws)))
        ⟨none, vs2, es2, b4, rfl, lc4, hle4, dpAll_imm kT4 hds2 (immAll_map En.imm es2), hnd2, eok2, hel2, hb4, hB4, hln⟩ (fun j σ Y _ ⟨_, _, _, _, _, _, _, _, _, _, _, _, _, h⟩ => SqL.of h) ?_ ?_⟩
      · rintro j x σ Y hx ⟨y12, vs, es, b5, rfl, lcY, hleY, hdsY, hndY, hokY, helY, hbY, hBY, hlnY⟩
        obtain ⟨wd, hwd, rfl⟩ : ∃ wd, ws[j]? = some wd ∧ x = V.str (SX.S wd) := by
          unfold nmV at hx
          rw [List.getElem?_map] at hx
          cases e : ws[j]? with
          | none => rw [e] at hx; cases hx
          | some u => rw [e] at hx; exact ⟨u, rfl, (Option.some.inj hx).symm⟩
        have hjw : j < ws.length := (List.getElem?_eq_some_iff.mp hwd).1
        have cY := cx.but ha lcY.bt
        obtain ⟨rq, rt, erv, hr1, hr2⟩ := row_at cY.row
        obtain ⟨phk, p1, p2⟩ := cY.p
        obtain ⟨r, hrm, hrn⟩ := cx.so mr.so (List.mem_cons_self ..)
        obtain ⟨pl, h1, h2, h3, h4⟩ := p2 r hrm
        rw [hrn] at h1 h3 h4
        subst erv
        refine ⟨_, rfl, _, rfl, _, rfl, rq, _, 1, .str (SX.S mr.so), rfl, rfl, hr1, atI_nat (j := 1) rfl, ph, .ref pl, rfl, by have h := DGet.k (k := Sum.inr (SX.S mr.so)) p1; rw [h1] at h; exact h, pl, _, rfl, .inl (SqL.of h3), rfl, flat_names _, _, rfl, ?_⟩
        show if (!inV (.str (SX.S wd)) (nmV (phs mr.so))) = true then _ else _
        rw [in_names]
        have takeM : ∀ w ∈ ws.take j, w ∈ ws.take (j + 1) := fun w hw => by
          rw [List.take_add_one]
          exact List.mem_append_left _ hw
        by_cases hin : wd ∈ phs mr.so
        · refine ifF (by rw [decide_eq_true hin]; rfl) ?_
          exact ⟨_, vs, es, b5, rfl, lcY, hleY, hdsY, hndY, fun e he => (hokY e he).mono takeM, by omega, hbY, hBY.mono (by omega), hlnY⟩
        · refine ifT (by rw [decide_eq_false hin]; rfl) ?_
          have lv := dpAll_len hdsY
          rw [List.length_map] at lv
          refine ⟨_, rfl, .inl ⟨rfl, _, SqL.of hleY⟩, ?_⟩
          refine ⟨_, rfl, _, rfl, le, _, rfl, .inl (SqL.of hleY), _, _, rfl, rfl, a, _, _, b5, rfl, hbY, hBY, by omega, by omega, by omega, fun r5 b6 h5 h5' hB6 => ?_⟩
          obtain ⟨kk, rfl⟩ := Int.eq_ofNat_of_zero_le h5
          have bY1 : But a Y (upd Y a (.lst b6)) := But.upd (But.refl a Y)
          have haY1 : (upd Y a (.lst b6)) a = some (.lst b6) := upd_same
          obtain ⟨Y1, eY1⟩ : ∃ Y1, Y1 = upd Y a (.lst b6) := ⟨_, rfl⟩
          rw [← eY1] at bY1 haY1 ⊢
          refine ⟨_, rfl, by show 2 ≤ sizeLine; decide, fun tq ntq => ?_⟩
          have k1 := same_upd (o := .tup [.str "kept", .str (SX.S wd)]) ntq
          have bY2 := bY1.trans (But.of (a := a) k1)
          have hle6 := bY2 _ _ nea hleY
          refine ⟨le, vs, _, .ref tq, rfl, rfl, hle6, small1000 (by omega), by omega, by omega, ?_⟩
          rw [Int.toNat_natCast]
          have kt := KeepT.but hbY bY2
          have dN : Dp K (upd Y1 tq (.tup [.str "kept", .str (SX.S wd)])) (.ref tq) (En.d (.kept wd)) := .tup (SqT.of upd_same) (.cons (.str _) (.cons (.str _) .nil))
          obtain ⟨Y2, eY2⟩ : ∃ Y2, Y2 = upd Y1 tq (.tup [.str "kept", .str (SX.S wd)]) := ⟨_, rfl⟩
          rw [← eY2] at k1 bY2 hle6 kt dN ⊢
          have kl : KeepT Y2 (upd Y2 le (.lst (vs.take kk ++ [.ref tq] ++ vs.drop kk))) := KeepT.at_ hle6 lst_no
          have lcY2 := lcY.go hbY nra nka noa bY2
          have fresh : En.kept wd ∉ es := fun hm => by
            have := (hokY _ hm).2
            obtain ⟨s1, hs1, hs2⟩ := List.getElem_of_mem this
            rw [List.length_take] at hs1
            rw [List.getElem_take] at hs2
            have hs3 : ws[s1]? = some wd := by rw [List.getElem?_eq_getElem (by omega), hs2]
            have := (List.getElem?_inj (by omega) hwn).mp (hs3.trans hwd.symm)
            omega
          refine ⟨_, vs.take kk ++ [.ref tq] ++ vs.drop kk, es.take kk ++ [.kept wd] ++ es.drop kk, b6, rfl, ⟨fun c o nc hc => ?_, kl.seqT lcY2.pt, ?_, ?_, ?_⟩, upd_same, ?_, ?_, fun e he => ?_, ?_, ?_, hB6.mono (by omega), ?_⟩
          · rw [upd_ne (ne_of_none hc nle)]
            exact lcY2.bt c o nc hc
          · rw [upd_ne e1.symm]
            exact lcY2.lr
          · rw [upd_ne e2.symm]
            exact lcY2.lk
          · rw [upd_ne e3.symm]
            exact lcY2.lo
          · rw [List.map_append, List.map_append, List.map_take, List.map_drop]
            have dA := dpAll_imm (kt.trans kl) hdsY (immAll_map En.imm es)
            exact dpAll_appI (dpAll_appI (dpAll_take kk dA) (.cons (dp_imm kl dN rfl) .nil)) (dpAll_drop kk dA)
          · rw [(ins_perm es (.kept wd) kk).nodup_iff, List.nodup_cons]
            exact ⟨fresh, hndY⟩
          · rcases List.mem_cons.mp ((ins_perm es (.kept wd) kk).mem_iff.mp he) with rfl | he
            · refine ⟨⟨hws wd (List.mem_of_getElem? hwd), fun r' hr' hn' hm' => hin ?_⟩, ?_⟩
              · obtain ⟨pl', _, _, _, hp'⟩ := p2 r' hr'
                rw [hn'] at hp'
                exact hp'.mem_iff.mpr hm'
              · rw [List.take_add_one, hwd]
                exact List.mem_append_right _ (by simp)
            · exact (hokY e he).mono takeM
          · rw [(ins_perm es (.kept wd) kk).length_eq, List.length_cons]
            omega
          · rw [upd_ne nea.symm]
            exact k1 _ _ haY1
          · rw [upd_ne nlne]
            exact bY2 _ _ nlna hlnY
      · rintro σ Y ⟨y12, vs, es, b5, rfl, lcY, hleY, hdsY, hndY, hokY, helY, hbY, hBY, hlnY⟩
        rw [nmV_len] at hokY helY hBY
        rw [List.take_length] at hokY
        exact ⟨_, vs, es, ws, b5, rfl, lcY, hleY, hdsY, hndY, by omega, hokY, by omega, hbY, hBY.mono (by omega)⟩
    rintro σ X5 ⟨y12, vs, es, ks, b5, rfl, lc5, hle5, hds5, hnd5, hk2, hok5, hel5, hb5, hB5⟩
    have small5 : ∀ e ∈ es, NmSmall (enW e) := fun e he => by
      have h := hok5 e he
      cases e with
      | sp p w =>
        obtain ⟨k, r, _, hr, _, hw⟩ := h
        exact nm_small ((cx.sok.ok r hr).all w hw)
      | kept w => exact nm_small h.1.1
    have lv5 := dpAll_len hds5
    rw [List.length_map] at lv5
    -- those that may be needed
    refine ⟨fun σ X => ∃ (lf : Addr) (us : List V) (fs : List En), σ = [some (.ref a), some (.ref gd), some rowv, some (.ref ph), some wv, some (.ref pt), some (.ref le), some (.ref lr), some (.ref lk), some (.ref lo), y10, y11, y12, some (.ref lf), none, none, none, none, none, none, none, none] ∧ Same X5 X ∧ X5 lf = none ∧ X lf = some (.lst us) ∧ DpAll K X us (fs.map En.d) ∧ (∀ e ∈ fs, e ∈ es ∧ FrOk rs mr e) ∧ (∀ e ∈ es, e ∉ fs → TgOk rs mr e) ∧ fs.length ≤ 11, ?_, ?_⟩
    · refine ⟨_, rfl, le, rfl, ⟨_, SqL.of hle5⟩, fun D nD => ?_⟩
      refine lc_list (K := K) (a := le) (xs := vs) (fun j Y => Same X5 Y ∧ ∃ (us : List V) (fs : List En), Y D = some (.lst us) ∧ DpAll K Y us (fs.map En.d) ∧ (∀ e ∈ fs, e ∈ es.take j ∧ FrOk rs mr e) ∧ (∀ e ∈ es.take j, e ∉ fs → TgOk rs mr e) ∧ fs.length ≤ j)
        ⟨same_upd nD, [], [], upd_same, .nil, (fun e h => nomatch h), (fun e h => nomatch h), Nat.le_refl _⟩ (fun j Y _ h => SqL.of (h.1 _ _ hle5)) ?_ ?_
      · rintro j x Y hx ⟨sY, us, fs, hD, hus, hfs, hns, hfl⟩
        obtain ⟨dd, hdd, hxd⟩ := dpAll_at hds5 hx
        rw [List.getElem?_map] at hdd
        obtain ⟨e, he, rfl⟩ : ∃ e, es[j]? = some e ∧ dd = e.d := by
          cases h : es[j]? with
          | none => rw [h] at hdd; cases hdd
          | some e => rw [h] at hdd; exact ⟨e, rfl, (Option.some.inj hdd).symm⟩
        have hjl : j < es.length := (List.getElem?_eq_some_iff.mp he).1
        have ok := hok5 e (List.mem_of_getElem? he)
        have lu := dpAll_len hus
        rw [List.length_map] at lu
        have tk : es.take (j + 1) = es.take j ++ [e] := by rw [List.take_add_one, he]; rfl
        -- it is kept, or left out
        have yes : FrOk rs mr e → ∀ Z, Same Y Z → Same X5 (upd Z D (.lst (us ++ [x]))) ∧ ∃ (us' : List V) (fs' : List En), (upd Z D (.lst (us ++ [x]))) D = some (.lst us') ∧ DpAll K (upd Z D (.lst (us ++ [x]))) us' (fs'.map En.d) ∧ (∀ e ∈ fs', e ∈ es.take (j + 1) ∧ FrOk rs mr e) ∧ (∀ e ∈ es.take (j + 1), e ∉ fs' → TgOk rs mr e) ∧ fs'.length ≤ j + 1 := fun hfr Z sZ => by
          have hDZ := sZ _ _ hD
          have kl : KeepT Z (upd Z D (.lst (us ++ [x]))) := KeepT.at_ hDZ lst_no
          refine ⟨Same.at_ (sY.trans sZ) nD, us ++ [x], fs ++ [e], upd_same, ?_, fun e' he' => ?_, fun e' he' hn' => ?_, by rw [List.length_append]; show fs.length + 1 ≤ j + 1; omega⟩
          · rw [List.map_append]
            exact dpAll_appI (dpAll_imm ((KeepT.of sZ).trans kl) hus (immAll_map En.imm fs)) (.cons (dp_imm kl (dp_same (sY.trans sZ) hxd) e.imm) .nil)
          · rw [tk]
            rcases List.mem_append.mp he' with h | h
            · exact ⟨List.mem_append_left _ (hfs e' h).1, (hfs e' h).2⟩
            · rw [List.mem_singleton.mp h]
              exact ⟨List.mem_append_right _ (by simp), hfr⟩
          · rw [tk] at he'
            rcases List.mem_append.mp he' with h | h
            · exact hns e' h fun z => hn' (List.mem_append_left _ z)
            · exact absurd (List.mem_append_right fs h) hn'
        refine ⟨rfl, ?_⟩
        cases e with
        | kept w =>
          obtain ⟨q0, rfl, hq0⟩ := en_at (dp_same sY hxd)
          have hq0 : SqT K Y q0 [.str "kept", .str (SX.S w)] := hq0
          refine ⟨_, rfl, q0, _, 0, .str "kept", rfl, rfl, hq0, atI_nat (j := 0) rfl, rfl, _, rfl, ifT (by decide +kernel) (iteT ?_)⟩
          exact ⟨_, rfl, us, hD, small1000 (by omega), yes ok.1 Y (Same.refl Y)⟩
        | sp p w =>
          obtain ⟨q0, rfl, hq0⟩ := en_at (dp_same sY hxd)
          have hq0 : SqT K Y q0 [.str "at", .int (p : Nat), .str (SX.S w)] := hq0
          refine ⟨_, rfl, q0, _, 0, .str "at", rfl, rfl, hq0, atI_nat (j := 0) rfl, rfl, _, rfl, ifF (by decide +kernel) ?_⟩
          obtain ⟨k, r, hk, hr, hrn, hw⟩ := ok
          have cY := (cx.but ha lc5.bt).but hb5 (But.of (a := a) sY)
          obtain ⟨kvs, of, ofk, q1, q2, q3, q4, q5⟩ := cY.g
          obtain ⟨vo, ho1, ho2⟩ := q5 r hr
          rw [hrn] at ho1
          obtain ⟨oq, td, tu, rfl, hoS, htd, htu⟩ : ∃ oq td tu, vo = .ref oq ∧ SqT K Y oq [.ref td, .ref tu] ∧ SqT K Y td (nmV r.dn) ∧ SqT K Y tu (nmV r.up) := by
            cases ho2 with
            | tup hS hA =>
              cases hA with
              | cons a1 hA =>
                cases hA with
                | cons a2 hA =>
                  cases hA
                  cases a1 with
                  | tup h1 h2 =>
                    cases a2 with
                    | tup h3 h4 =>
                      rw [names_of h2] at h1
                      rw [names_of h4] at h3
                      exact ⟨_, _, _, rfl, hS, h1, h3⟩
          refine ⟨_, rfl, q0, _, 2, .str (SX.S w), rfl, rfl, hq0, atI_nat (j := 2) rfl, ?_⟩
          refine ⟨_, rfl, gd, .ref of, rfl, by have h := DGet.k (k := Sum.inr "of") q1; rw [q3] at h; exact h, ?_⟩
          refine ⟨_, rfl, _, rfl, q0, _, 1, .int (p : Nat), rfl, rfl, hq0, atI_nat (j := 1) rfl, pt, _, _, _, rfl, rfl, Same.seqT sY lc5.pt, atI_nat (nmV_at hk), ?_⟩
          refine ⟨of, .ref oq, rfl, by have h := DGet.k (k := Sum.inr (SX.S k)) q4; rw [ho1] at h; exact h, ?_⟩
          refine ⟨_, rfl, q0, _, 1, .int (p : Nat), rfl, rfl, hq0, atI_nat (j := 1) rfl, rfl, .inr ⟨_, rfl, ?_⟩⟩
          have no : FrOk rs mr (.sp p w) → False → False := fun _ h => h
          by_cases hp0 : p = 0
          · subst hp0
            refine ⟨oq, _, 1, .ref tu, rfl, congrArg V.int (if_pos (by decide +kernel)), hoS, atI_nat (j := 1) rfl, ?_⟩
            refine ⟨tu, _, rfl, .inr htu, rfl, flat_names _, _, rfl, ?_⟩
            show if (!inV (.str (SX.S w)) (nmV r.up)) = true then _ else _
            rw [in_names]
            by_cases hin : w ∈ r.up
            · refine ifF (by rw [decide_eq_true hin]; rfl) ⟨sY, us, fs, hD, hus, fun e' he' => ⟨by rw [tk]; exact List.mem_append_left _ (hfs e' he').1, (hfs e' he').2⟩, fun e' he' hn' => ?_, by omega⟩
              rw [tk] at he'
              rcases List.mem_append.mp he' with h | h
              · exact hns e' h hn'
              · rw [List.mem_singleton.mp h]
                exact ⟨k, r, hk, hr, hrn, hin⟩
            · refine ifT (by rw [decide_eq_false hin]; rfl) ?_
              exact ⟨_, rfl, us, hD, small1000 (by omega), yes ⟨k, r, hk, hr, hrn, (List.mem_append.mp hw).elim id (fun z => absurd z hin)⟩ Y (Same.refl Y)⟩
          · refine ⟨oq, _, 0, .ref td, rfl, congrArg V.int (if_neg (by rw [decide_eq_false (fun z => hp0 (by have := V.int.inj z; omega))]; decide)), hoS, atI_nat (j := 0) rfl, ?_⟩
            refine ⟨td, _, rfl, .inr htd, rfl, flat_names _, _, rfl, ?_⟩
            show if (!inV (.str (SX.S w)) (nmV r.dn)) = true then _ else _
            rw [in_names]
            by_cases hin : w ∈ r.dn
            · refine ifF (by rw [decide_eq_true hin]; rfl) ⟨sY, us, fs, hD, hus, fun e' he' => ⟨by rw [tk]; exact List.mem_append_left _ (hfs e' he').1, (hfs e' he').2⟩, fun e' he' hn' => ?_, by omega⟩
              rw [tk] at he'
              rcases List.mem_append.mp he' with h | h
              · exact hns e' h hn'
              · rw [List.mem_singleton.mp h]
                refine ⟨k, r, hk, hr, hrn, ?_⟩
                rw [decide_eq_false hp0]
                exact hin
            · refine ifT (by rw [decide_eq_false hin]; rfl) ?_
              refine ⟨_, rfl, us, hD, small1000 (by omega), yes ⟨k, r, hk, hr, hrn, ?_⟩ Y (Same.refl Y)⟩
              rw [decide_eq_false hp0]
              exact (List.mem_append.mp hw).elim (fun z => absurd z hin) id
      · rintro Y ⟨sY, us, fs, hD, hus, hfs, hns, hfl⟩
        rw [lv5, List.take_length] at hfs hns
        exact ⟨D, us, fs, rfl, sY, nD, hD, hus, hfs, hns, by omega⟩
    rintro σ X6 ⟨lf, us, fs, rfl, s56, nlf5, hlf6, hus6, hfs, hns, hfl⟩
    have lc6 := lc5.go hb5 nra nka noa (But.of (a := a) s56)
    have hle6 := s56 _ _ hle5
    have hds6 := dpAll_same s56 hds5
    have hb6 := s56 _ _ hb5
    have nfa : lf ≠ a := fun z => by
      rw [z, hb5] at nlf5
      cases nlf5
    have nfr : lf ≠ lr := fun z => by
      rw [z, lc5.lr] at nlf5
      cases nlf5
    have ls6 : Ls K H X6 a le lo lf vs us es fs (opsOf roof) := ⟨lc6.bt, hle6, hds6, hlf6, hus6, lc6.lo⟩
    have luf := dpAll_len hus6
    rw [List.length_map] at luf
    refine ⟨_, rfl, le, rfl, ⟨_, SqL.of hle6⟩, for_list (K := K) (a := le) (xs := vs) (fun i σ Y => ∃ (y14 y15 y16 y17 y18 y19 y20 y21 : Option V) (lk : Addr) (kv rv b' : List V) (kn : List En) (ru : List RRow), σ = [some (.ref a), some (.ref gd), some rowv, some (.ref ph), some wv, some (.ref pt), some (.ref le), some (.ref lr), some (.ref lk), some (.ref lo), y10, y11, y12, some (.ref lf), y14, y15, y16, y17, y18, y19, y20, y21] ∧ Ls K H Y a le lo lf vs us es fs (opsOf roof) ∧ Y lr = some (.lst rv) ∧ DpAll K Y rv (ru.map RRow.d) ∧ Y lk = some (.lst kv) ∧ DpAll K Y kv (kn.map En.d) ∧ lk ≠ a ∧ lk ≠ lr ∧ Rst rs mr roof ks es fs i i ru kn ∧ Y a = some (.lst b') ∧ BoxL (m + 40 + 20 * i) b')
      ⟨none, none, none, none, none, none, none, none, lk, [], [], b5, [], [], rfl, ls6, lc6.lr, .nil, lc6.lk, .nil, nka, d4.symm, ⟨List.Sublist.slnil, (fun r h => nomatch h), (fun r h => nomatch h), Nat.le_refl _⟩, hb6, hB5⟩ (fun j σ Y _ ⟨_, _, _, _, _, _, _, _, _, _, _, _, _, _, _, h, _⟩ => SqL.of h.le) ?_ ?_⟩
    · rintro i x σ Y hx ⟨y14, y15, y16, y17, y18, y19, y20, y21, lk', kv, rv, b', kn, ru, rfl, ls, hlr, hru, hlk, hkn, nka', nkr', rst, hb, hB⟩
      obtain ⟨dd, hdd, hxd⟩ := dpAll_at ls.de hx
      rw [List.getElem?_map] at hdd
      obtain ⟨e, he, rfl⟩ : ∃ e, es[i]? = some e ∧ dd = e.d := by
        cases h : es[i]? with
        | none => rw [h] at hdd; cases hdd
        | some e => rw [h] at hdd; exact ⟨e, rfl, (Option.some.inj hdd).symm⟩
      have hil : i < es.length := (List.getElem?_eq_some_iff.mp he).1
      have hem := List.mem_of_getElem? he
      have ok := hok5 e hem
      have tk : es.take (i + 1) = es.take i ++ [e] := by rw [List.take_add_one, he]; rfl
      have lrv := dpAll_len hru
      rw [List.length_map] at lrv
      have lkv := dpAll_len hkn
      rw [List.length_map] at lkv
      have fss : ∀ e ∈ fs, NmSmall (enW e) := fun e h => small5 e (hfs e h).1
      -- a rule, or none
      refine ⟨fun σ Y => ∃ (y15 y16 y17 y18 y19 y20 y21 : Option V) (rv b' : List V) (ru : List RRow), σ = [some (.ref a), some (.ref gd), some rowv, some (.ref ph), some wv, some (.ref pt), some (.ref le), some (.ref lr), some (.ref lk'), some (.ref lo), y10, y11, y12, some (.ref lf), some x, y15, y16, y17, y18, y19, y20, y21] ∧ Ls K H Y a le lo lf vs us es fs (opsOf roof) ∧ Y lr = some (.lst rv) ∧ DpAll K Y rv (ru.map RRow.d) ∧ Y lk' = some (.lst kv) ∧ DpAll K Y kv (kn.map En.d) ∧ Rst rs mr roof ks es fs i (i + 1) ru kn ∧ Y a = some (.lst b') ∧ BoxL (m + 40 + 20 * (i + 1)) b', ?_, ?_⟩
      · have cY := cx.but ha ls.bt
        obtain ⟨wq, rfl, hwq⟩ := wild_at cY.wl
        -- what may be needed
        obtain ⟨sl, xs, cs, esl, hsl, dsl, hcs, hcl, nsa⟩ : ∃ (sl : Addr) (xs : List V) (cs : List En), (if wb = true then V.ref lf else V.ref lk') = .ref sl ∧ Y sl = some (.lst xs) ∧ DpAll K Y xs (cs.map En.d) ∧ (∀ e ∈ cs, e ∈ fs) ∧ cs.length ≤ 11 ∧ sl ≠ a := by
          have := rst.kl
          cases wb with
          | true => exact ⟨lf, us, fs, rfl, ls.lf, ls.df, fun e h => h, hfl, nfa⟩
          | false => exact ⟨lk', kv, kn, rfl, hlk, hkn, rst.kf, by omega, nka'⟩
        have lxs := dpAll_len dsl
        rw [List.length_map] at lxs
        have noRule : ∀ {Z : Hp} {b2 : List V}, But a Y Z → Z a = some (.lst b2) → BoxL (m + 40 + 20 * i + 1) b2 → ∃ (z15 z16 z17 z18 z19 z20 z21 : Option V) (rv b' : List V) (ru : List RRow), [some (.ref a), some (.ref gd), some rowv, some (.ref ph), some (.ref wq), some (.ref pt), some (.ref le), some (.ref lr), some (.ref lk'), some (.ref lo), y10, y11, y12, some (.ref lf), some x, y15, y16, y17, y18, y19, y20, y21] = [some (.ref a), some (.ref gd), some rowv, some (.ref ph), some (.ref wq), some (.ref pt), some (.ref le), some (.ref lr), some (.ref lk'), some (.ref lo), y10, y11, y12, some (.ref lf), some x, z15, z16, z17, z18, z19, z20, z21] ∧ Ls K H Z a le lo lf vs us es fs (opsOf roof) ∧ Z lr = some (.lst rv) ∧ DpAll K Z rv (ru.map RRow.d) ∧ Z lk' = some (.lst kv) ∧ DpAll K Z kv (kn.map En.d) ∧ Rst rs mr roof ks es fs i (i + 1) ru kn ∧ Z a = some (.lst b') ∧ BoxL (m + 40 + 20 * (i + 1)) b' := fun {Z b2} t h1 h2 =>
          have k := KeepT.but hb t
          ⟨y15, y16, y17, y18, y19, y20, y21, rv, b2, ru, rfl, ls.go hb nea nfa noa t, t _ _ nra hlr, dpAll_imm k hru (immAll_map RRow.imm ru), t _ _ nka' hlk, dpAll_imm k hkn (immAll_map En.imm kn), ⟨by rw [tk]; exact rst.sub.trans (List.sublist_append_left _ _), rst.ok, rst.kf, rst.kl⟩, h1, h2.mono (by omega)⟩
        refine ifs_or (c1 := isK e) (c2 := !decide (e ∈ fs)) (fun Q hQ => ?_) (fun Q hQ => ?_) (fun hc => ?_) (fun hc => ?_)
        · cases e with
          | kept w =>
            obtain ⟨q0, rfl, hq0⟩ := en_at hxd
            have hq0 : SqT K Y q0 [.str "kept", .str (SX.S w)] := hq0
            exact ⟨_, rfl, q0, _, 0, .str "kept", rfl, rfl, hq0, atI_nat (j := 0) rfl, rfl, _, rfl, hQ _ (by show decide (V.str (Str.ofString "kept") = V.str (Str.ofString "kept")) = true; decide +kernel)⟩
          | sp p w =>
            obtain ⟨q0, rfl, hq0⟩ := en_at hxd
            have hq0 : SqT K Y q0 [.str "at", .int (p : Nat), .str (SX.S w)] := hq0
            exact ⟨_, rfl, q0, _, 0, .str "at", rfl, rfl, hq0, atI_nat (j := 0) rfl, rfl, _, rfl, hQ _ (by show decide (V.str (Str.ofString "at") = V.str (Str.ofString "kept")) = false; decide +kernel)⟩
        · exact ⟨_, rfl, _, rfl, e.d, fs.map En.d, hxd, .lst (SqL.of ls.lf) ls.df, en_shape (small5 e hem), ens_shape fss, _, rfl, hQ _ (by rw [ens_any])⟩
        · have tg : TgOk rs mr e := by
            cases e with
            | kept w => exact ok.1
            | sp p w =>
              refine hns _ hem fun z => ?_
              rw [decide_eq_true z] at hc
              cases hc
          have wn0 := cx.w0
          have wn1 := cx.w1
          refine ⟨_, rfl, _, rfl, wq, _, 1, .int (wn : Nat), rfl, rfl, hwq, atI_nat (j := 1) rfl, a, _, _, b', rfl, hb, hB, by omega, by omega, by omega, fun r0 b1 h0 h0' hB1 => ?_⟩
          have bY1 : But a Y (upd Y a (.lst b1)) := But.upd (But.refl a Y)
          have hb1 : (upd Y a (.lst b1)) a = some (.lst b1) := upd_same
          obtain ⟨Y1, eY1⟩ : ∃ Y1, Y1 = upd Y a (.lst b1) := ⟨_, rfl⟩
          rw [← eY1] at bY1 hb1 ⊢
          refine ⟨_, _, rfl, rfl, _, rfl, ?_⟩
          by_cases hr0 : 0 < r0
          · refine ifT (decide_eq_true hr0) ?_
            have ls1 := ls.go hb nea nfa noa bY1
            obtain ⟨ol1, ol2⟩ := ops_len roof
            refine ⟨_, rfl, _, rfl, a, lo, _, b1, nmV (opsOf roof), rfl, hb1, hB1, by omega, SqL.of ls1.lo, noa, by rw [nmV_len]; exact ol1, by rw [nmV_len]; omega, fun i2 ov b2 hov hB2 => ?_⟩
            have bY2 : But a Y (upd Y1 a (.lst b2)) := bY1.trans (But.upd (But.refl a Y1))
            have hb2 : (upd Y1 a (.lst b2)) a = some (.lst b2) := upd_same
            obtain ⟨Y2, eY2⟩ : ∃ Y2, Y2 = upd Y1 a (.lst b2) := ⟨_, rfl⟩
            rw [← eY2] at bY2 hb2 ⊢
            obtain ⟨op, hop, rfl⟩ : ∃ op, op ∈ opsOf roof ∧ ov = V.str (SX.S op) := by
              unfold nmV at hov
              rw [List.getElem?_map] at hov
              cases eo : (opsOf roof)[i2]? with
              | none => rw [eo] at hov; cases hov
              | some u => rw [eo] at hov; exact ⟨u, List.mem_of_getElem? eo, (Option.some.inj hov).symm⟩
            refine ⟨_, rfl, wq, _, 0, .bl wb, rfl, rfl, (KeepT.but hb bY2).seqT hwq, atI_nat (j := 0) rfl, wb, rfl, ?_⟩
            refine if_some (ta := tVar 13) (tb := tVar 8) (u := .ref lf) (v := .ref lk') (fun Q h => ⟨_, rfl, h⟩) (fun Q h => ⟨_, rfl, h⟩) ?_
            rw [esl]
            refine ⟨by show 0 ≤ sizeLine; decide, fun lp nlp => ⟨_, _, _, rfl, ?_⟩⟩
            have s3 := same_upd (o := .lst []) nlp
            have bY3 : But a Y (upd Y2 lp (.lst [])) := bY2.trans (But.of s3)
            have hb3 := s3 _ _ hb2
            have hlp3 : (upd Y2 lp (.lst [])) lp = some (.lst []) := upd_same
            obtain ⟨Y3, eY3⟩ : ∃ Y3, Y3 = upd Y2 lp (.lst []) := ⟨_, rfl⟩
            rw [← eY3] at bY3 hb3 hlp3 ⊢
            have nlpY : Y lp = none := But.free bY2 hb2 nlp
            have npa : lp ≠ a := fun z => by
              rw [z, hb] at nlpY
              cases nlpY
            -- its operands
            refine ⟨fun σ Z => ∃ (y18 y19 y20 : Option V) (ov b4 : List V) (os : List Od), σ = [some (.ref a), some (.ref gd), some rowv, some (.ref ph), some (.ref wq), some (.ref pt), some (.ref le), some (.ref lr), some (.ref lk'), some (.ref lo), y10, y11, y12, some (.ref lf), some x, some (.str (SX.S op)), some (.ref sl), some (.ref lp), y18, y19, y20, y21] ∧ But a Y Z ∧ Z lp = some (.lst ov) ∧ DpAll K Z ov (os.map Od.d) ∧ os.length = arOf op ∧ (∀ o ∈ os, OdOk rs mr o ∧ ∀ w ∈ odName o, w ∈ ks) ∧ Z a = some (.lst b4) ∧ BoxL (m + 40 + 20 * i + 20) b4, ?_, ?_⟩
            · refine fun dp ndp => ⟨upd_same, AR, rfl, by decide, dp, rfl, .inl ⟨_, Rd.of upd_same⟩, _, rfl, _, DGet.k (k := Sum.inr (SX.S op)) upd_same, ((arOf op : Nat) : Int), by rw [ar_get hop], by omega, by have := ar_le op; omega, ?_⟩
              have s4 : Same Y3 (upd (upd Y3 dp (.dK [])) dp (.dK (mergeK [] AR))) := Same.at_ (same_upd ndp) ndp
              obtain ⟨Y4, eY4⟩ : ∃ Y4, Y4 = upd (upd Y3 dp (.dK [])) dp (.dK (mergeK [] AR)) := ⟨_, rfl⟩
              rw [← eY4] at s4 ⊢
              refine for_range (lo := 0) (n := Int.toNat ((arOf op : Nat) : Int)) (fun j σ Z => ∃ (y18 y19 y20 : Option V) (ov b4 : List V) (os : List Od), σ = [some (.ref a), some (.ref gd), some rowv, some (.ref ph), some (.ref wq), some (.ref pt), some (.ref le), some (.ref lr), some (.ref lk'), some (.ref lo), y10, y11, y12, some (.ref lf), some x, some (.str (SX.S op)), some (.ref sl), some (.ref lp), y18, y19, y20, y21] ∧ But a Y Z ∧ Z lp = some (.lst ov) ∧ DpAll K Z ov (os.map Od.d) ∧ os.length = j ∧ (∀ o ∈ os, OdOk rs mr o ∧ ∀ w ∈ odName o, w ∈ ks) ∧ Z a = some (.lst b4) ∧ BoxL (m + 40 + 20 * i + 2 + 6 * j) b4)
                ⟨_, _, _, [], b2, [], rfl, bY3.trans (But.of s4), s4 _ _ hlp3, .nil, rfl, (fun r h => nomatch h), s4 _ _ hb3, hB2⟩ ?_ ?_
              · rintro j σ Z hj ⟨z18, z19, z20, ov, b4, os, rfl, btZ, hlpZ, hos, hol, hook, hb4, hB4⟩
                have hj3 : j < 3 := by
                  have := ar_le op
                  rw [Int.toNat_natCast] at hj
                  omega
                have lov := dpAll_len hos
                rw [List.length_map] at lov
                refine ⟨_, rfl, a, _, _, b4, rfl, hb4, hB4, by omega, by decide, by decide, fun w0 b5 h0 h0' hB5 => ?_⟩
                obtain ⟨ww, rfl⟩ := Int.eq_ofNat_of_zero_le h0
                have bZ1 : But a Z (upd Z a (.lst b5)) := But.upd (But.refl a Z)
                have hb5 : (upd Z a (.lst b5)) a = some (.lst b5) := upd_same
                obtain ⟨Z1, eZ1⟩ : ∃ Z1, Z1 = upd Z a (.lst b5) := ⟨_, rfl⟩
                rw [← eZ1] at bZ1 hb5 ⊢
                refine ⟨by show 1 ≤ sizeLine; decide, fun t1 n1 => ?_⟩
                have sA := same_upd (o := .tup [.str "own"]) n1
                have hb6 := sA _ _ hb5
                refine ⟨_, rfl, a, _, b5, rfl, hb6, hB5, by omega, fun Z3 rn b7 bt3 hb7 hB7 hrn hrn' => ⟨by show 2 ≤ sizeLine; decide, fun t2 n2 => ⟨by show 2 ≤ sizeLine; decide, fun l3 n3 => ?_⟩⟩⟩
                obtain ⟨rm, rfl⟩ := Int.eq_ofNat_of_zero_le hrn
                have sB := same_upd (o := .tup [.str "number", .int (rm : Nat)]) n2
                have sC := same_upd (o := .lst [.ref t1, .ref t2]) n3
                have bZ4 := ((bZ1.trans (But.of sA)).trans bt3).trans (But.of (a := a) (sB.trans sC))
                have hb8 := (sB.trans sC) _ _ hb7
                have d1 : Dp K Z3 (.ref t1) Od.own.d := dp_imm (KeepT.but hb6 bt3) (.tup (SqT.of upd_same) (.cons (.str _) .nil)) rfl
                have d2 : Dp K (upd Z3 t2 (.tup [.str "number", .int (rm : Nat)])) (.ref t2) (Od.num rm).d := .tup (SqT.of upd_same) (.cons (.str _) (.cons (.int _) .nil))
                have d1 := dp_same (sB.trans sC) d1
                have d2 := dp_same sC d2
                have hl3 : (upd (upd Z3 t2 (.tup [.str "number", .int (rm : Nat)])) l3 (.lst [.ref t1, .ref t2])) l3 = some (.lst [.ref t1, .ref t2]) := upd_same
                obtain ⟨Z4, eZ4⟩ : ∃ Z4, Z4 = upd (upd Z3 t2 (.tup [.str "number", .int (rm : Nat)])) l3 (.lst [.ref t1, .ref t2]) := ⟨_, rfl⟩
                rw [← eZ4] at bZ4 hb8 d1 d2 hl3 ⊢
                obtain ⟨v1, o1, hat, dv1, ok1, nm1⟩ : ∃ v1 o1, atI [V.ref t1, V.ref t2] (((ww : Nat) : Int) % 2) = some v1 ∧ Dp K Z4 v1 (Od.d o1) ∧ OdOk rs mr o1 ∧ odName o1 = [] := by
                  rcases Nat.mod_two_eq_zero_or_one ww with h | h
                  · exact ⟨_, .own, by rw [show ((ww : Nat) : Int) % 2 = ((0 : Nat) : Int) by omega]; exact atI_nat (j := 0) rfl, d1, trivial, rfl⟩
                  · exact ⟨_, .num rm, by rw [show ((ww : Nat) : Int) % 2 = ((1 : Nat) : Int) by omega]; exact atI_nat (j := 1) rfl, d2, (by show rm < 1000000; omega), rfl⟩
                refine ⟨_, rfl, _, _, rfl, rfl, by show (0 : Int) < 2; decide, l3, _, _, v1, rfl, rfl, SqL.of hl3, hat, ?_⟩
                have btZ4 := btZ.trans bZ4
                have hlp4 := bZ4 _ _ npa hlpZ
                have hos4 := dpAll_imm (KeepT.but hb4 bZ4) hos (immAll_map Od.imm os)
                -- one more
                have fin : ∀ (U : Hp) (v : V) (o : Od) (bu : List V), But a Z4 U → U a = some (.lst bu) → BoxL (m + 40 + 20 * i + 2 + 6 * j + 6) bu → Dp K U v o.d → OdOk rs mr o → (∀ w ∈ odName o, w ∈ ks) → ∃ (l : Addr) (xs : List V) (y : V), V.ref lp = .ref l ∧ [v] = [y] ∧ U l = some (.lst xs) ∧ xs.length < sizeLine ∧ ∃ (y18 y19 y20 : Option V) (ov b4 : List V) (os : List Od), [some (.ref a), some (.ref gd), some rowv, some (.ref ph), some (.ref wq), some (.ref pt), some (.ref le), some (.ref lr), some (.ref lk'), some (.ref lo), y10, y11, y12, some (.ref lf), some x, some (.str (SX.S op)), some (.ref sl), some (.ref lp), some (.int (0 + ((j : Nat) : Int))), some (.int ((ww : Nat) : Int)), some v1, y21] = [some (.ref a), some (.ref gd), some rowv, some (.ref ph), some (.ref wq), some (.ref pt), some (.ref le), some (.ref lr), some (.ref lk'), some (.ref lo), y10, y11, y12, some (.ref lf), some x, some (.str (SX.S op)), some (.ref sl), some (.ref lp), y18, y19, y20, y21] ∧ But a Y (upd U l (.lst (xs ++ [y]))) ∧ (upd U l (.lst (xs ++ [y]))) lp = some (.lst ov) ∧ DpAll K (upd U l (.lst (xs ++ [y]))) ov (os.map Od.d) ∧ os.length = j + 1 ∧ (∀ o ∈ os, OdOk rs mr o ∧ ∀ w ∈ odName o, w ∈ ks) ∧ (upd U l (.lst (xs ++ [y]))) a = some (.lst b4) ∧ BoxL (m + 40 + 20 * i + 2 + 6 * (j + 1)) b4 := fun U v o bu bU hbu hBu dv hov hnv => by
                  have hlpU := bU _ _ npa hlp4
                  have kk : KeepT U (upd U lp (.lst (ov ++ [v]))) := KeepT.at_ hlpU lst_no
                  refine ⟨lp, ov, v, rfl, rfl, hlpU, small1000 (by omega), _, _, _, ov ++ [v], bu, os ++ [o], rfl, fun c o nc hc => ?_, upd_same, ?_, ?_, fun o' ho' => ?_, ?_, hBu.mono (by omega)⟩
                  · rw [upd_ne (ne_of_none hc nlpY)]
                    exact (btZ4.trans bU) c o nc hc
                  · rw [List.map_append]
                    exact dpAll_appI (dpAll_imm ((KeepT.but hb8 bU).trans kk) hos4 (immAll_map Od.imm os)) (.cons (dp_imm kk dv o.imm) .nil)
                  · rw [List.length_append]
                    show os.length + 1 = j + 1
                    omega
                  · rcases List.mem_append.mp ho' with h | h
                    · exact hook o' h
                    · rw [List.mem_singleton.mp h]
                      exact ⟨hov, hnv⟩
                  · rw [upd_ne npa.symm]
                    exact hbu
                refine ⟨_, rfl, .inl ⟨rfl, _, SqL.of hlp4⟩, ?_⟩
                refine ⟨_, rfl, _, _, rfl, rfl, _, rfl, ?_⟩
                have hn1 : ∀ w ∈ odName o1, w ∈ ks := by rw [nm1]; exact fun w h => nomatch h
                have hsl4 := btZ4 _ _ nsa hsl
                have dsl4 := dpAll_imm (KeepT.but hb btZ4) dsl (immAll_map En.imm cs)
                have css : ∀ e ∈ cs, NmSmall (enW e) := fun e h => fss e (hcs e h)
                by_cases hw4 : ((ww : Nat) : Int) < 4
                · refine ifT (decide_eq_true hw4) ⟨_, rfl, by show 0 ≤ sizeLine; decide, fun l5 n5 => ?_⟩
                  have s5 := same_upd (o := .lst []) n5
                  refine ⟨.list (cs.map En.d), .list [], .lst (SqL.of (s5 _ _ hsl4)) (dpAll_same s5 dsl4), .lst (SqL.of upd_same) .nil, ens_shape css, by decide +kernel, _, rfl, ?_⟩
                  have hb9 := s5 _ _ hb8
                  have bU5 : But a Z4 (upd Z4 l5 (.lst [])) := But.of s5
                  have hsl5 := s5 _ _ hsl4
                  have dsl5 := dpAll_same s5 dsl4
                  obtain ⟨Z5, eZ5⟩ : ∃ Z5, Z5 = upd Z4 l5 (.lst []) := ⟨_, rfl⟩
                  rw [← eZ5] at s5 hb9 bU5 hsl5 dsl5 ⊢
                  rw [ens_nil]
                  by_cases hcn : cs = []
                  · refine ifF (by rw [decide_eq_true hcn]; rfl) ⟨_, rfl, ?_⟩
                    exact fin Z5 v1 o1 b7 bU5 hb9 (hB7.mono (by omega)) (dp_same s5 dv1) ok1 hn1
                  · refine ifT (by rw [decide_eq_false hcn]; rfl) ?_
                    refine ⟨_, rfl, _, rfl, 1, rfl, _, rfl, _, _, rfl, rfl, _, rfl, sl, xs, rfl, SqL.of hsl5, fun l6 n6 => ?_⟩
                    have s6 := same_upd (o := .lst (cutV xs (some (-1 - ((ww : Nat) : Int))) none)) n6
                    have hcut : cutV xs (some (-1 - ((ww : Nat) : Int))) none = xs.drop (xs.length - (ww + 1)) := cutV_back xs ww
                    have clp : 0 < cs.length := List.length_pos_iff.mpr hcn
                    refine ⟨a, l6, _, b7, _, rfl, s6 _ _ hb9, hB7, by omega, SqL.of upd_same, fun z => ?_, ?_, ?_, fun i3 v3 b8 hv3 hB8 => ?_⟩
                    · rw [z, hb9] at n6
                      cases n6
                    · rw [show (-1 : Int) - ((ww : Nat) : Int) = -1 - ((ww : Nat) : Int) from rfl, hcut, List.length_drop]
                      omega
                    · rw [hcut, List.length_drop]
                      omega
                    rw [hcut, List.getElem?_drop] at hv3
                    obtain ⟨dd3, hdd3, hd3⟩ := dpAll_at dsl5 hv3
                    rw [List.getElem?_map] at hdd3
                    obtain ⟨e3', he3, rfl⟩ : ∃ e3', cs[xs.length - (ww + 1) + i3]? = some e3' ∧ dd3 = e3'.d := by
                      cases h : cs[xs.length - (ww + 1) + i3]? with
                      | none => rw [h] at hdd3; cases hdd3
                      | some e => rw [h] at hdd3; exact ⟨e, rfl, (Option.some.inj hdd3).symm⟩
                    have hfe := hcs e3' (List.mem_of_getElem? he3)
                    refine fin _ v3 (.en e3') b8 (bU5.trans ((But.of s6).trans (But.upd (But.refl a _)))) upd_same (hB8.mono (by omega)) (dp_imm ((KeepT.of s6).trans (KeepT.at_ (s6 _ _ hb9) lst_no)) hd3 e3'.imm) (hfs e3' hfe).2 fun w hw => ?_
                    have hk3 := hok5 e3' (hfs e3' hfe).1
                    cases e3' with
                    | sp p w' => cases hw
                    | kept w' =>
                      rw [List.mem_singleton.mp hw]
                      exact hk3.2
                · refine ifF (decide_eq_false hw4) ⟨_, rfl, ?_⟩
                  exact fin Z4 v1 o1 b7 (But.refl a Z4) hb8 (hB7.mono (by omega)) dv1 ok1 hn1
              · rintro σ Z ⟨z18, z19, z20, ov, b4, os, rfl, btZ, hlpZ, hos, hol, hook, hb4, hB4⟩
                rw [Int.toNat_natCast] at hol hB4
                have := ar_le op
                exact ⟨_, _, _, ov, b4, os, rfl, btZ, hlpZ, hos, hol, hook, hb4, hB4.mono (by omega)⟩
            · rintro σ Z ⟨z18, z19, z20, ov, b4, os, rfl, btZ, hlpZ, hos, hol, hook, hb4, hB4⟩
              have kZ := KeepT.but hb btZ
              have lsZ := ls.go hb nea nfa noa btZ
              have hlrZ := btZ _ _ nra hlr
              have cZ := cx.but ha lsZ.bt
              obtain ⟨rq, rt, erv, hr1, hr2⟩ := row_at cZ.row
              subst erv
              refine ⟨_, rfl, .inl ⟨rfl, _, SqL.of hlrZ⟩, ?_⟩
              refine ⟨_, rfl, rq, _, 0, .str (SX.S mr.nm), rfl, rfl, hr1, atI_nat (j := 0) rfl, _, rfl, _, rfl, _, rfl, lp, ov, rfl, .inl ⟨SqL.of hlpZ, fun l7 n7 => ?_⟩⟩
              refine ⟨by show 4 ≤ sizeLine; decide, fun l8 n8 => ?_⟩
              have s7 := same_upd (o := .tup ov) n7
              have s8 := same_upd (o := .tup [.str (SX.S mr.nm), x, .str (SX.S op), .ref l7]) n8
              have dR : Dp K (upd (upd Z l7 (.tup ov)) l8 (.tup [.str (SX.S mr.nm), x, .str (SX.S op), .ref l7])) (.ref l8) (RRow.d ⟨mr.nm, e, op, os⟩) :=
                .tup (SqT.of upd_same) (.cons (.str _) (.cons (dp_imm (kZ.trans (KeepT.of (s7.trans s8))) hxd e.imm) (.cons (.str _) (.cons (dp_same s8 (.tup (SqT.of upd_same) (dpAll_same s7 hos))) .nil))))
              have s78 := s7.trans s8
              obtain ⟨U, eU⟩ : ∃ U, U = upd (upd Z l7 (.tup ov)) l8 (.tup [.str (SX.S mr.nm), x, .str (SX.S op), .ref l7]) := ⟨_, rfl⟩
              rw [← eU] at dR s78 ⊢
              have hlrU := s78 _ _ hlrZ
              have sl7 := rst.sub.length_le
              rw [List.length_map, List.length_take] at sl7
              have kU : KeepT U (upd U lr (.lst (rv ++ [.ref l8]))) := KeepT.at_ hlrU lst_no
              have lsU := (lsZ.go hb4 nea nfa noa (But.of s78)).put (rv' := rv ++ [.ref l8]) hlrU e1 nfr d7.symm nlr
              refine ⟨lr, rv, .ref l8, rfl, rfl, hlrU, small1000 (by omega), _, _, _, _, _, _, _, rv ++ [.ref l8], b4, ru ++ [⟨mr.nm, e, op, os⟩], rfl, lsU, upd_same, ?_, ?_, ?_, ⟨?_, fun r hr => ?_, rst.kf, rst.kl⟩, ?_, hB4.mono (by omega)⟩
              · rw [List.map_append]
                exact dpAll_appI (dpAll_imm ((kZ.trans (KeepT.of s78)).trans kU) hru (immAll_map RRow.imm ru)) (.cons (dp_imm kU dR (RRow.imm _)) .nil)
              · rw [upd_ne nkr']
                exact s78 _ _ (btZ _ _ nka' hlk)
              · exact dpAll_imm ((kZ.trans (KeepT.of s78)).trans kU) hkn (immAll_map En.imm kn)
              · rw [List.map_append, tk]
                exact rst.sub.append (List.Sublist.refl _)
              · rcases List.mem_append.mp hr with h | h
                · exact rst.ok r h
                · rw [List.mem_singleton.mp h]
                  exact ⟨rfl, tg, hop, hol, hook⟩
              · rw [upd_ne nra.symm]
                exact s78 _ _ hb4
          · refine ifF (decide_eq_false hr0) ?_
            exact noRule bY1 hb1 hB1
        · exact noRule (But.refl a Y) hb (hB.mono (by omega))
      · rintro σ Z ⟨y15, y16, y17, y18, y19, y20, y21, rv, b2, ru, rfl, ls2, hlr2, hru2, hlk2, hkn2, rst2, hb2, hB2⟩
        refine ⟨_, rfl, _, rfl, by show 1 ≤ sizeLine; decide, fun l1 n1 => ⟨l1, rfl, ⟨_, SqL.of upd_same⟩, fun D nD => ?_⟩⟩
        have s1 := same_upd (o := .lst [x]) n1
        have h1 : (upd Z l1 (.lst [x])) l1 = some (.lst [x]) := upd_same
        obtain ⟨Z1, eZ1⟩ : ∃ Z1, Z1 = upd Z l1 (.lst [x]) := ⟨_, rfl⟩
        rw [← eZ1] at s1 h1 nD ⊢
        refine lc_list (K := K) (a := l1) (xs := [x]) (fun j U => Same Z1 U ∧ ∃ (zs : List V) (cs : List En), U D = some (.lst zs) ∧ DpAll K U zs (cs.map En.d) ∧ (∀ e ∈ cs, e ∈ fs) ∧ cs.length ≤ j) ⟨same_upd nD, [], [], upd_same, .nil, (fun r h => nomatch h), Nat.le_refl _⟩ (fun j U _ h => SqL.of (h.1 _ _ h1)) ?_ ?_
        · rintro j x' U hx' ⟨sU, zs, cs, hD, hzs, hcs, hcl⟩
          obtain ⟨rfl, rfl⟩ : j = 0 ∧ x' = x := by
            cases j with
            | zero => exact ⟨rfl, (Option.some.inj hx').symm⟩
            | succ j => cases hx'
          have sZU := s1.trans sU
          have lz := dpAll_len hzs
          rw [List.length_map] at lz
          have hxU : Dp K U x' e.d := dp_same sZU (dpAll_look ls2.de hx he)
          refine ⟨rfl, _, rfl, _, rfl, e.d, fs.map En.d, hxU, .lst (SqL.of (sZU _ _ ls2.lf)) (dpAll_same sZU ls2.df), en_shape (small5 e hem), ens_shape fss, _, rfl, ?_⟩
          rw [ens_any]
          by_cases hin : e ∈ fs
          · refine ifT (decide_eq_true hin) ⟨_, rfl, zs, hD, small1000 (by omega), Same.at_ sU nD, zs ++ [x'], cs ++ [e], upd_same, ?_, fun e' he' => ?_, by rw [List.length_append]; show cs.length + 1 ≤ 0 + 1; omega⟩
            · rw [List.map_append]
              have kk : KeepT U (upd U D (.lst (zs ++ [x']))) := KeepT.at_ hD lst_no
              exact dpAll_appI (dpAll_imm kk hzs (immAll_map En.imm cs)) (.cons (dp_imm kk hxU e.imm) .nil)
            · rcases List.mem_append.mp he' with h | h
              · exact hcs e' h
              · rw [List.mem_singleton.mp h]
                exact hin
          · exact ifF (decide_eq_false hin) ⟨sU, zs, cs, hD, hzs, hcs, by omega⟩
        · rintro U ⟨sU, zs, cs, hD, hzs, hcs, hcl⟩
          have lz := dpAll_len hzs
          rw [List.length_map] at lz
          have sZU := s1.trans sU
          refine ⟨lk', D, kv, zs, rfl, rfl, sZU _ _ hlk2, hD, ?_, fun lk2 nlk2 => ?_⟩
          · refine Nat.le_trans (show _ ≤ 100 from ?_) (by decide)
            have := rst.kl
            have hcl : cs.length ≤ 1 := hcl
            omega
          have sN := same_upd (o := .lst (kv ++ zs)) nlk2
          have sA := sZU.trans sN
          have bA : But a Z (upd U lk2 (.lst (kv ++ zs))) := But.of sA
          refine ⟨some x, y15, y16, y17, y18, y19, y20, y21, lk2, kv ++ zs, rv, b2, kn ++ cs, ru, rfl, ls2.go hb2 nea nfa noa bA, sA _ _ hlr2, dpAll_same sA hru2, upd_same, ?_, ?_, ?_, ⟨rst2.sub, rst2.ok, fun e' he' => (List.mem_append.mp he').elim (rst2.kf e') (hcs e'), ?_⟩, sA _ _ hb2, hB2⟩
          · rw [List.map_append]
            exact dpAll_appI (dpAll_same sA hkn2) (dpAll_same sN hzs)
          · exact fun z => by
              have := sZU _ _ hb2
              rw [← z, nlk2] at this
              cases this
          · exact fun z => by
              have := sZU _ _ hlr2
              rw [← z, nlk2] at this
              cases this
          · rw [List.length_append]
            have := rst2.kl
            have hcl : cs.length ≤ 1 := hcl
            omega
    · rintro σ Y ⟨y14, y15, y16, y17, y18, y19, y20, y21, lk', kv, rv, b', kn, ru, rfl, ls, hlr, hru, hlk, hkn, nka', nkr', rst, hb, hB⟩
      have lvv := dpAll_len hds6
      rw [List.length_map] at lvv
      have sl := rst.sub.length_le
      rw [List.length_map, List.length_take] at sl
      refine ⟨_, rfl, q Y lr rv ru ks b' ls.bt nlr hlr hru ⟨fun r h => (rst.ok r h).1, fun r h => (rst.ok r h).2.1, rst.sub.nodup (List.Nodup.sublist (List.take_sublist _ _) hnd5), fun r h => (rst.ok r h).2.2.1, fun r h => (rst.ok r h).2.2.2.1, fun r h o ho => ((rst.ok r h).2.2.2.2 o ho).1, hk2, fun r h w hw => ?_, fun r h o ho => ((rst.ok r h).2.2.2.2 o ho).2, by omega⟩ hb (hB.mono (by omega))⟩
      have hm : r.tg ∈ es := List.mem_of_mem_take (rst.sub.mem (List.mem_map_of_mem h))
      have hk := hok5 _ hm
      cases et : r.tg with
      | sp p w' =>
        rw [et] at hw
        cases hw
      | kept w' =>
        rw [et] at hw hk
        rw [List.mem_singleton.mp hw]
        exact hk.2
end
/-! ### dict(pairs) whose keys are tuples, with tuples in them: a dict that isn't followed -/
mutual
def keyD : PyData → NestedKey
  | .tuple ds => .tup (keyDs ds)
  | .list _ => .none
  | .dict _ => .none
  | .none => .none
  | .bool b => .num (if b = true then 1 else 0)
  | .int i => .num i
  | .str x => .text x
def keyDs : List PyData → List NestedKey
  | [] => []
  | d :: ds => keyD d :: keyDs ds
end
section
variable {X : Cx} {pins : List (Addr × Obj)} {σ : L2.St} {H : Hp} {s : Shared}
mutual
theorem nst (I : Inv X pins σ H s) : ∀ {v : V} {d : PyData} {u : Value}, Dp X.K H v d → imm d = true → RelV v u → NestedIs s.heap (keyD d) u
  | _, _, u, .non, _, r => by
    obtain rfl : u = Value.none := r
    exact .none
  | _, _, u, .bl b, _, r => by
    obtain rfl : u = Value.bool b := r
    exact .bool rfl
  | _, _, u, .int i, _, r => by
    obtain ⟨t, rfl⟩ : ∃ t, u = Value.int i t := r
    exact .int i t
  | _, _, u, .str x, _, r => by
    obtain ⟨t, rfl⟩ : ∃ t, u = Value.str x t := r
    exact .text x t
  | _, _, u, .lst h a, i, _ => nomatch (show (false : Bool) = true from i)
  | _, _, u, .tup (a := p) h a, i, r => by
    obtain rfl : u = Value.ref p := r
    obtain ⟨its, rv, ⟨o, ho, hc, n, hd⟩, _⟩ := I.tuple h
    exact .tup ho hc hd (nstAll I a i rv)
theorem nstAll (I : Inv X pins σ H s) : ∀ {vs : List V} {ds : List PyData} {us : List Value}, DpAll X.K H vs ds → immAll ds = true → Vals vs us → NestedAll s.heap (keyDs ds) us
  | _, _, _, .nil, _, .nil => .nil
  | _, _, _, .cons h a, i, .cons r rs => .cons (nst I h (Bool.and_eq_true_iff.mp i).1 r) (nstAll I a (Bool.and_eq_true_iff.mp i).2 rs)
end
theorem pairsN (I : Inv X pins σ H s) : ∀ {ps : List Addr} {ks : List (Addr × PyData × V)}, Paired (fun p k => SqT X.K H p [.ref k.1, k.2.2] ∧ Dp X.K H (.ref k.1) k.2.1 ∧ imm k.2.1 = true ∧ (keyD k.2.1).depth ≤ 8) ps ks →
    ∃ prs : List (NestedKey × Addr × Value), prs.length = ps.length ∧ (∀ x ∈ prs, (nestedKind X.prog X.w).is s.heap x.1 x.2.1) ∧ ∀ (j : Nat) (x : NestedKey × Addr × Value), prs[j]? = some x → ∃ b, ps[j]? = some b ∧ IsTup s.heap b #[.ref x.2.1, x.2.2]
  | _, _, .nil => ⟨[], rfl, (fun x h => nomatch h), fun j x e => by simp at e⟩
  | _, _, .cons (a := p) (b := k) ⟨h1, h2, h3, h4⟩ t => by
    obtain ⟨prs, hl, his, hp⟩ := pairsN I t
    obtain ⟨its, rv, ht, _⟩ := I.tuple h1
    obtain ⟨u, y, ei, ru, ry⟩ := vals2 rv
    subst ei
    obtain rfl : u = Value.ref k.1 := ru
    refine ⟨(keyD k.2.1, k.1, y) :: prs, by rw [List.length_cons, List.length_cons, hl], fun x hx => ?_, fun j x e => ?_⟩
    · rcases List.mem_cons.mp hx with rfl | hx
      · exact ⟨nst I h2 h3 rfl, h4⟩
      · exact his x hx
    · cases j with
      | zero =>
        obtain rfl := Option.some.inj e
        exact ⟨p, rfl, ht⟩
      | succ j =>
        obtain ⟨b, e1, e2⟩ := hp j x (by simpa using e)
        exact ⟨b, by simpa using e1, e2⟩
end
theorem call_dictN {X : Cx} (hu : X.A.units + 65 < cLine) (hcalm : X.calm = true) : CallR X (.type "dict") (fun xs H Q => ∃ (a : Addr) (ps : List Addr) (ks : List (Addr × PyData × V)), xs = [.ref a] ∧ SqL X.K H a (ps.map V.ref) ∧
    Paired (fun p k => SqT X.K H p [.ref k.1, k.2.2] ∧ Dp X.K H (.ref k.1) k.2.1 ∧ imm k.2.1 = true ∧ (keyD k.2.1).depth ≤ 8) ps ks ∧ ∀ p, H p = none → Q (.ref p) H) := by
  intro pins s σ H xs us Q I r q
  obtain ⟨a, ps, ks, ex, hq, hp, q⟩ := q
  subst ex
  obtain ⟨u, eu, rx⟩ := vals1 r
  subst eu
  obtain rfl : u = Value.ref a := rx
  obtain ⟨its, rv, pl, hz⟩ := I.list hq
  have ei := refs_at rv
  subst ei
  rw [List.length_map] at hz
  obtain ⟨prs, hl, his, hpr⟩ := pairsN I hp
  obtain ⟨o, n, ho, hc, hd, hdat⟩ := pl
  have P := PairArg.list (prog := X.prog) (w := X.w) a (ps.map Value.ref).toArray (fun j => ps.getD j 0) (prs.map fun x => (Value.ref x.2.1, x.2.2))
  have rel : ∀ (j : Nat) (k v : Value), (prs.map fun x => (Value.ref x.2.1, x.2.2))[j]? = some (k, v) → ∃ x, prs[j]? = some x ∧ k = .ref x.2.1 ∧ v = x.2.2 := fun j k v e => by
    rw [List.getElem?_map] at e
    cases e' : prs[j]? with
    | none => rw [e'] at e; cases e
    | some x =>
      rw [e'] at e
      cases e
      exact ⟨x, rfl, rfl, rfl⟩
  refine dict_keyed (knd := nestedKind X.prog X.w) (kvs := pairsH prs) nestedKind_stays P (I.ok.hd hcalm) ?_ ⟨⟨o, n, ho, hc, hd, hdat⟩, ?_, fun j k v e => ?_⟩ ⟨prs, rfl, ⟨?_, fun i key v e => ?_⟩, his⟩ (nestedKind_stays.all) ?_ fun h' tk hd' hk => ?_
  · show X.A.units + 1 + 1 + 8 < cLine
    omega
  · simp [hl]
  · obtain ⟨x, e1, rfl, rfl⟩ := rel j k v e
    obtain ⟨b, e2, e3⟩ := hpr j x e1
    refine ⟨?_, .inl ?_⟩
    · simp [e2]
    · simp only [List.getD, e2, Option.getD_some]
      exact e3
  · rw [List.length_map]
  · obtain ⟨x, e1, rfl, rfl⟩ := rel i key v e
    exact ⟨x.1, x.2.1, e1, rfl⟩
  · rw [List.length_map, hl]
    exact hz
  · exact ⟨.ref s.heap.objs.size, H, I.kept fun b u e => hk b u (by simp) e, rfl, q _ (I.hok.fresh (Nat.le_refl _))⟩
/-! ### strewn, handed a tuple -/
def spStrewnT (K : PySem.W.Frag) : Sp := fun vs H Q _ => ∃ (a sl : Addr) (m : Nat) (b xs : List V), vs = [.ref a, .ref sl] ∧ H a = some (.lst b) ∧ BoxL m b ∧ m + xs.length < 900000 ∧ SqT K H sl xs ∧ xs.length ≤ 100000 ∧
  ∀ (H' : Hp) (l : Addr) (ys b' : List V), But a H H' → H l = none → H' l = some (.lst ys) → ys.Perm xs → H' a = some (.lst b') → BoxL (m + xs.length) b' → Q (.ref l) H'
section
variable {P : Program} {w : World} {K : PySem.W.Frag} {mg : Str → Option Value} {base : Heap}
theorem ok_strewnT (T : Bt mg) (c_law_take : C8.Cal P w K mg base 1 "_law_take" spTake []) (D : Dd K mg "_law_strewn" s__law_strewn P__law_strewn) : C8.Cal P w K mg base 2 "_law_strewn" (spStrewnT K) [] := by
  refine D.cal sc__law_strewn (fun vs H Q E h => ?_) (fun f cdv A outer s H vs Q E hr h => ?_)
  · obtain ⟨a, sl, m, b, xs, rfl, _⟩ := h
    rfl
  · obtain ⟨a, sl, m, b, xs, rfl, ha, hB, hm, hS, h1, q⟩ := h
    refine ⟨_, (pss_cons (ps_set (i := 2) sc__law_strewn.nd rfl (Or.inl rfl) (pe_lst pa_nil))
        (pss_cons (ps_for PassesOwn.never rfl (pi_tup (pv 1)) (pg_name (i := 3) sc__law_strewn.nd rfl (Or.inl rfl))
          (pss_one (ps_expr (pe_bm PySem.F.plainAttrs_list PySem.F.slot_list_insert PySem.F.type_list_insert mt_insert (pv 2) (pa_cons (C8.pe_c c_law_take hr (by decide) (by rfl) (pa_cons (pv 0) (pa_cons (pe_op op_add (pe_callB call_len_seq (by rfl) T.len PySem.boot_len (pa_cons (pv 2) pa_nil)) pe_int) pa_nil))) (pa_cons (pv 3) pa_nil))))))
        (pss_one (ps_ret (pv 2))))), ?_⟩
    refine ⟨by show 0 ≤ sizeLine; decide, fun l nl => ?_⟩
    have nla : a ≠ l := ne_of_none ha nl
    have s1 := same_upd (o := .lst []) nl
    refine ⟨_, rfl, sl, rfl, ⟨_, Same.seqT s1 hS⟩, for_tup (K := K) (a := sl) (xs := xs) (fun i σ H3 => ∃ y ys b', σ = [some (.ref a), some (.ref sl), some (.ref l), y] ∧ But a H H3 ∧ H3 l = some (.lst ys) ∧ ys.Perm (xs.take i) ∧ H3 a = some (.lst b') ∧ BoxL (m + i) b' ∧ i ≤ xs.length)
      ⟨none, [], b, rfl, But.of s1, upd_same, .nil, s1 _ _ ha, hB, Nat.zero_le _⟩ (fun i σ H3 _ ⟨_, _, _, _, bt, _⟩ => (KeepT.but ha bt).seqT hS) ?_ ?_⟩
    · rintro i x σ H3 hx ⟨y, ys, b', rfl, bt, hl, hp, hb', hB', hi⟩
      have hi2 : i < xs.length := (List.getElem?_eq_some_iff.mp hx).1
      have ly : ys.length = i := by
        rw [hp.length_eq, List.length_take]
        omega
      refine ⟨_, rfl, .inl ⟨rfl, _, SqL.of hl⟩, _, rfl, _, rfl, l, ys, rfl, .inl (SqL.of hl), _, _, rfl, rfl, a, _, _, b', rfl, hb', hB', by omega, by omega, by omega, fun r b2 r0 r1 hB2 => ?_⟩
      have hl2 : (upd H3 a (.lst b2)) l = some (.lst ys) := by
        rw [upd_ne nla.symm]
        exact hl
      refine ⟨_, rfl, l, ys, r, x, rfl, rfl, hl2, by rw [ly]; exact Nat.lt_of_le_of_lt (Nat.le_of_lt hi2) (Nat.lt_of_le_of_lt h1 (by decide)), r0, by omega, ?_⟩
      have bt2 : But a H (upd (upd H3 a (.lst b2)) l (.lst (ys.take r.toNat ++ [x] ++ ys.drop r.toNat))) := fun c o nc hc => by
        rw [upd_ne (ne_of_none hc nl), upd_ne nc]
        exact bt _ _ nc hc
      refine ⟨_, _, b2, rfl, bt2, upd_same, ?_, by rw [upd_ne nla, upd_same], hB2, by omega⟩
      rw [List.take_add_one, hx]
      refine List.Perm.trans ?_ (List.Perm.append hp (List.Perm.refl [x]))
      rw [List.append_assoc]
      refine List.Perm.trans (List.Perm.append_left _ List.perm_append_comm) ?_
      rw [← List.append_assoc, List.take_append_drop]
    · rintro σ H3 ⟨y, ys, b', rfl, bt, hl, hp, hb', hB', hi⟩
      rw [List.take_length] at hp
      exact ⟨_, rfl, q _ l ys b' bt nl hl hp hb' hB'⟩
end
/-! ### dicts of rows -/
theorem merge_out (k : Key) : ∀ (kvs acc : List (Key × V)), k ∉ kvs.map (·.1) → valV (mergeK acc kvs) k = valV acc k
  | [], acc, _ => rfl
  | p :: kvs, acc, h => by
    show valV (mergeK (putK acc p.1 p.2) kvs) k = _
    rw [merge_out k kvs _ fun z => h (List.mem_cons_of_mem _ z), valV_put, if_neg fun z => h (by rw [z]; exact List.mem_cons_self ..)]
theorem merge_in : ∀ (kvs acc : List (Key × V)), (kvs.map (·.1)).Nodup → ∀ p ∈ kvs, valV (mergeK acc kvs) p.1 = some p.2
  | [], _, _, p, h => nomatch h
  | q :: kvs, acc, hn, p, h => by
    rw [List.map_cons, List.nodup_cons] at hn
    show valV (mergeK (putK acc q.1 q.2) kvs) p.1 = _
    rcases List.mem_cons.mp h with rfl | h
    · rw [merge_out p.1 kvs _ hn.1, valV_put, if_pos rfl]
    · exact merge_in kvs _ hn.2 p h
/-- a row of three: a name, and two more -/
structure T3 where
  k : List Nat
  d1 : PyData
  d2 : PyData
def T3.d (t : T3) : PyData := .tuple [strD t.k, t.d1, t.d2]
def T3.r (t : T3) : PyData := .tuple [t.d1, t.d2]
def kS (k : List Nat) : Key := Sum.inr (SX.S k)
theorem kS_inj {a b : List Nat} (h : kS a = kS b) : a = b := SX.S_inj (Sum.inr.inj h)
def Prs (K : PySem.W.Frag) (U : Hp) (ps : List Addr) (ts : List T3) : Prop := Paired (fun p t => ∃ v, SqT K U p [.str (SX.S t.k), v] ∧ Dp K U v t.r) ps ts
theorem Prs.kvs {K : PySem.W.Frag} {U : Hp} : ∀ {ps : List Addr} {ts : List T3}, Prs K U ps ts → ∃ kvs : List (Key × V), Paired (fun p kv => SqT K U p [kV kv.1, kv.2]) ps kvs ∧ kvs.map (·.1) = ts.map (fun t => kS t.k) ∧ ∀ t ∈ ts, ∃ v, (kS t.k, v) ∈ kvs ∧ Dp K U v t.r
  | _, _, .nil => ⟨[], .nil, rfl, fun t h => nomatch h⟩
  | _, _, .cons (b := t0) ⟨v, h1, h2⟩ r => by
    obtain ⟨kvs, q1, q2, q3⟩ := Prs.kvs r
    refine ⟨(kS t0.k, v) :: kvs, .cons h1 q1, by rw [List.map_cons, List.map_cons, q2], fun t ht => ?_⟩
    rcases List.mem_cons.mp ht with rfl | ht
    · exact ⟨v, List.mem_cons_self .., h2⟩
    · obtain ⟨v', h3, h4⟩ := q3 t ht
      exact ⟨v', List.mem_cons_of_mem _ h3, h4⟩
theorem paired_snoc {α β : Type} {R : α → β → Prop} : ∀ {xs : List α} {ys : List β} {x : α} {y : β}, Paired R xs ys → R x y → Paired R (xs ++ [x]) (ys ++ [y])
  | _, _, _, _, .nil, h => .cons h .nil
  | _, _, _, _, .cons a r, h => .cons a (paired_snoc r h)
theorem paired_mono {α β : Type} {R S : α → β → Prop} (f : ∀ a b, R a b → S a b) : ∀ {xs : List α} {ys : List β}, Paired R xs ys → Paired S xs ys
  | _, _, .nil => .nil
  | _, _, .cons a r => .cons (f _ _ a) (paired_mono f r)
theorem paired_len {α β : Type} {R : α → β → Prop} : ∀ {xs : List α} {ys : List β}, Paired R xs ys → xs.length = ys.length
  | _, _, .nil => rfl
  | _, _, .cons _ r => by rw [List.length_cons, List.length_cons, paired_len r]
theorem t3_at {K : PySem.W.Frag} {H : Hp} {v : V} {t : T3} (h : Dp K H v t.d) : ∃ q v1 v2, v = .ref q ∧ SqT K H q [.str (SX.S t.k), v1, v2] ∧ Dp K H v1 t.d1 ∧ Dp K H v2 t.d2 := by
  cases h with
  | tup hS hA =>
    cases hA with
    | cons a1 hA =>
      cases hA with
      | cons a2 hA =>
        cases hA with
        | cons a3 hA =>
          cases hA
          cases a1
          exact ⟨_, _, _, rfl, hS, a2, a3⟩
theorem prs_keep {K : PySem.W.Frag} {U U' : Hp} (k : KeepT U U') {ps : List Addr} {ts : List T3} (hi : ∀ t ∈ ts, imm t.r = true) (h : Prs K U ps ts) : Prs K U' ps ts := by
  unfold Prs at *
  induction h with
  | nil => exact .nil
  | cons a r ih =>
    obtain ⟨v, h1, h2⟩ := a
    exact .cons ⟨v, k.seqT h1, dp_imm k h2 (hi _ (List.mem_cons_self ..))⟩ (ih fun t ht => hi t (List.mem_cons_of_mem _ ht))
/-- [(row[0], row[1:]) for row in rows] -/
theorem lc_of {K : PySem.W.Frag} {L D : Addr} {vs : List V} {ts : List T3} {x0 x1 x2 x3 x4 x5 x6 x7 x8 x9 x10 x11 : Option V} {Y : Hp} {Qd : Hp → Prop} (hL : Y L = some (.lst vs)) (hv : DpAll K Y vs (ts.map T3.d)) (hi : ∀ t ∈ ts, imm t.r = true) (hl : ts.length ≤ 100) (nD : Y D = none)
    (hd : ∀ (U : Hp) (ps : List Addr), Same Y U → U D = some (.lst (ps.map V.ref)) → Prs K U ps ts → Qd U) :
    ∃ W : Nat → Nat → Hp → Prop, (∃ m, W 0 m (upd Y D (.lst []))) ∧ ∀ i m H, W i m H →
      ((Itl K L).stop i H ∧ Qd H) ∨ ((Itl K L).go i H ∧ ∃ Nx : Hp → Prop, (∀ H', Nx H' → ∃ m', m' < m ∧ W (i + 1) m' H') ∧ ∀ x H', (Itl K L).yld i H x H' → gName 10 x (wipe [x0, x1, x2, x3, x4, x5, x6, x7, x8, x9, x10, x11] [10]) H' fun σ2 H2 => wipe σ2 [10] = wipe [x0, x1, x2, x3, x4, x5, x6, x7, x8, x9, x10, x11] [10] ∧ tYes σ2 H2 fun b H3 =>
        if b = true then tTup (tCons (tOp (rIxT K) (tVar 10) (tC (V.int 0))) (tCons (tSl (rSlAny K) (tVar 10) (tPart (tC (V.int 1))) tNoPart) tNil)) σ2 H3 fun y H4 => ∃ acc, H4 D = some (.lst acc) ∧ acc.length < sizeLine ∧ Nx (upd H4 D (.lst (acc ++ [y]))) else Nx H3) := by
  have lv := dpAll_len hv
  rw [List.length_map] at lv
  refine lc_list (K := K) (a := L) (xs := vs) (fun j U => Same Y U ∧ ∃ ps : List Addr, U D = some (.lst (ps.map V.ref)) ∧ Prs K U ps (ts.take j)) ⟨same_upd nD, [], upd_same, .nil⟩ (fun j U _ h => SqL.of (h.1 _ _ hL)) ?_ ?_
  · rintro j x U hx ⟨sU, ps, hD, hp⟩
    obtain ⟨dd, hdd, hxd⟩ := dpAll_at hv hx
    rw [List.getElem?_map] at hdd
    obtain ⟨t, ht, rfl⟩ : ∃ t, ts[j]? = some t ∧ dd = t.d := by
      cases h : ts[j]? with
      | none => rw [h] at hdd; cases hdd
      | some e => rw [h] at hdd; exact ⟨e, rfl, (Option.some.inj hdd).symm⟩
    have hj : j < ts.length := (List.getElem?_eq_some_iff.mp ht).1
    have tk : ts.take (j + 1) = ts.take j ++ [t] := by rw [List.take_add_one, ht]; rfl
    have lp := paired_len hp
    rw [List.length_take] at lp
    obtain ⟨q, v1, v2, rfl, hq, h1, h2⟩ := t3_at (dp_same sU hxd)
    refine ⟨rfl, yesT ?_⟩
    refine ⟨_, rfl, q, _, 0, .str (SX.S t.k), rfl, rfl, hq, atI_nat (j := 0) rfl, _, rfl, 1, rfl, q, _, rfl, hq, fun U2 t2 s2 ht2 => ?_⟩
    have ht2 : SqT K U2 t2 [v1, v2] := ht2
    refine ⟨by show 2 ≤ sizeLine; decide, fun p3 n3 => ?_⟩
    have s3 := same_upd (o := .tup [.str (SX.S t.k), .ref t2]) n3
    have s23 := s2.trans s3
    have hD3 := s23 _ _ hD
    refine ⟨_, hD3, small1000 (by rw [List.length_map]; omega), ?_, ps ++ [p3], ?_, ?_⟩
    · exact Same.at_ (sU.trans s23) nD
    · rw [List.map_append]
      exact upd_same
    · rw [tk]
      have kk : KeepT (upd U2 p3 (.tup [.str (SX.S t.k), .ref t2])) (upd (upd U2 p3 (.tup [.str (SX.S t.k), .ref t2])) D (.lst (ps.map V.ref ++ [.ref p3]))) := KeepT.at_ hD3 lst_no
      have hit := hi t (List.mem_of_getElem? ht)
      have dv : Dp K U2 (.ref t2) t.r := .tup ht2 (.cons (dp_same s2 h1) (.cons (dp_same s2 h2) .nil))
      exact paired_snoc (prs_keep ((KeepT.of s23).trans kk) (fun t h => hi t (List.mem_of_mem_take h)) hp) ⟨.ref t2, kk.seqT (SqT.of upd_same), dp_imm ((KeepT.of s3).trans kk) dv hit⟩
  · rintro U ⟨sU, ps, hD, hp⟩
    rw [lv, List.take_length] at hp
    exact hd U ps sU hD hp
/-! ### a grammar on the heap, while it is drawn -/
theorem merge_keys : ∀ (kvs acc : List (Key × V)), ((acc ++ kvs).map (·.1)).Nodup → (mergeK acc kvs).map (·.1) = (acc ++ kvs).map (·.1)
  | [], acc, _ => by
    rw [List.append_nil]
    rfl
  | p :: kvs, acc, h => by
    show (mergeK (putK acc p.1 p.2) kvs).map (·.1) = _
    have e : putK acc p.1 p.2 = acc ++ [p] := by
      unfold putK
      rw [if_neg]
      intro z
      obtain ⟨x, hx, ex⟩ := List.any_eq_true.mp z
      rw [List.map_append, List.map_cons] at h
      exact (List.nodup_append.mp h).2.2 x.1 (List.mem_map_of_mem hx) p.1 (List.mem_cons_self ..) (of_decide_eq_true ex)
    rw [e, merge_keys kvs (acc ++ [p]) (by rw [List.append_assoc]; exact h), List.append_assoc]
    rfl
structure Gs (K : PySem.W.Frag) (H Y : Hp) (a gd ls lm lr of : Addr) (rs : List SRow) (ms : List MRow) (ru : List RRow) (roof : Nat) (kvs : List (Key × V)) : Prop where
  bt : But a H Y
  hgd : Y gd = some (.dK kvs)
  nH : H gd = none
  cap : valV kvs (Sum.inr "cap") = some (.int (roof : Nat))
  so : valV kvs (Sum.inr "sorts") = some (.ref ls)
  mak : valV kvs (Sum.inr "makings") = some (.ref lm)
  rl : valV kvs (Sum.inr "rules") = some (.ref lr)
  ofv : valV kvs (Sum.inr "of") = some (.ref of)
  hls : ∃ sv, Y ls = some (.lst sv) ∧ DpAll K Y sv (rs.map SRow.d)
  hlm : ∃ mv, Y lm = some (.lst mv) ∧ DpAll K Y mv (ms.map MRow.d)
  hlr : ∃ rv, Y lr = some (.lst rv) ∧ DpAll K Y rv (ru.map RRow.d)
  hof : ∃ ofk, Y of = some (.dK ofk) ∧ ofk.map (·.1) = rs.map (fun r => kS r.nm) ∧ ∀ r ∈ rs, ∃ v, valV ofk (kS r.nm) = some v ∧ Dp K Y v (.tuple [.tuple (r.dn.map strD), .tuple (r.up.map strD)])
  n1 : ls ≠ a
  n2 : lm ≠ a
  n3 : lr ≠ a
  n4 : of ≠ gd
theorem up_imm (r : SRow) : imm (.tuple [.tuple (r.dn.map strD), .tuple (r.up.map strD)]) = true := by
  show (immAll (r.dn.map strD) && (immAll (r.up.map strD) && true)) = true
  rw [immAll_map strD_imm, immAll_map strD_imm]
  rfl
theorem Gs.go {K : PySem.W.Frag} {H Y Z : Hp} {a gd ls lm lr of : Addr} {rs : List SRow} {ms : List MRow} {ru : List RRow} {roof : Nat} {kvs : List (Key × V)} {b : List V} (h : Gs K H Y a gd ls lm lr of rs ms ru roof kvs) (hb : Y a = some (.lst b)) (t : But a Y Z) : Gs K H Z a gd ls lm lr of rs ms ru roof kvs := by
  have k := KeepT.but hb t
  have nd : ∀ {d : Addr} {kv : List (Key × V)}, Y d = some (.dK kv) → d ≠ a := fun {d kv} h z => by
    rw [z, hb] at h
    cases h
  obtain ⟨sv, l1, l2⟩ := h.hls
  obtain ⟨mv, m1, m2⟩ := h.hlm
  obtain ⟨rv, r1, r2⟩ := h.hlr
  obtain ⟨ofk, o1, oks, o2⟩ := h.hof
  exact ⟨h.bt.trans t, t _ _ (nd h.hgd) h.hgd, h.nH, h.cap, h.so, h.mak, h.rl, h.ofv, ⟨sv, t _ _ h.n1 l1, dpAll_imm k l2 (immAll_map SRow.imm rs)⟩, ⟨mv, t _ _ h.n2 m1, dpAll_imm k m2 (immAll_map MRow.imm ms)⟩, ⟨rv, t _ _ h.n3 r1, dpAll_imm k r2 (immAll_map RRow.imm ru)⟩, ⟨ofk, t _ _ (nd o1) o1, oks, fun r hr => by
    obtain ⟨v, h1, h2⟩ := o2 r hr
    exact ⟨v, h1, dp_imm k h2 (up_imm r)⟩⟩, h.n1, h.n2, h.n3, h.n4⟩
/-- g[..] = .. -/
theorem Gs.set {K : PySem.W.Frag} {H Y : Hp} {a gd ls lm lr of lm' lr' : Addr} {rs : List SRow} {ms ms' : List MRow} {ru ru' : List RRow} {roof : Nat} {kvs kvs' : List (Key × V)} (h : Gs K H Y a gd ls lm lr of rs ms ru roof kvs)
    (hlm : ∃ mv, Y lm' = some (.lst mv) ∧ DpAll K Y mv (ms'.map MRow.d)) (n2 : lm' ≠ a) (hlr : ∃ rv, Y lr' = some (.lst rv) ∧ DpAll K Y rv (ru'.map RRow.d)) (n3 : lr' ≠ a)
    (cap : valV kvs' (Sum.inr "cap") = some (.int (roof : Nat))) (so : valV kvs' (Sum.inr "sorts") = some (.ref ls)) (mak : valV kvs' (Sum.inr "makings") = some (.ref lm')) (rl : valV kvs' (Sum.inr "rules") = some (.ref lr')) (ofv : valV kvs' (Sum.inr "of") = some (.ref of)) :
    Gs K H (upd Y gd (.dK kvs')) a gd ls lm' lr' of rs ms' ru' roof kvs' := by
  have k : KeepT Y (upd Y gd (.dK kvs')) := KeepT.at_ h.hgd dK_no
  have nl : ∀ {d : Addr} {xs : List V}, Y d = some (.lst xs) → d ≠ gd := fun {d xs} h' z => by
    rw [z, h.hgd] at h'
    cases h'
  obtain ⟨sv, l1, l2⟩ := h.hls
  obtain ⟨mv, m1, m2⟩ := hlm
  obtain ⟨rv, r1, r2⟩ := hlr
  obtain ⟨ofk, o1, oks, o2⟩ := h.hof
  refine ⟨fun c o nc hc => ?_, upd_same, h.nH, cap, so, mak, rl, ofv, ⟨sv, ?_, dpAll_imm k l2 (immAll_map SRow.imm rs)⟩, ⟨mv, ?_, dpAll_imm k m2 (immAll_map MRow.imm ms')⟩, ⟨rv, ?_, dpAll_imm k r2 (immAll_map RRow.imm ru')⟩, ⟨ofk, ?_, oks, fun r hr => ?_⟩, h.n1, n2, n3, h.n4⟩
  · rw [upd_ne (ne_of_none hc h.nH)]
    exact h.bt c o nc hc
  · rw [upd_ne (nl l1)]; exact l1
  · rw [upd_ne (nl m1)]; exact m1
  · rw [upd_ne (nl r1)]; exact r1
  · rw [upd_ne h.n4]; exact o1
  · obtain ⟨v, h1, h2⟩ := o2 r hr
    exact ⟨v, h1, dp_imm k h2 (up_imm r)⟩
/-- the phases -/
def Ph (Y : Hp) (a ph : Addr) (rs : List SRow) (phs : List Nat → List (List Nat)) : Prop := ∃ phk, Y ph = some (.dK phk) ∧ ∀ r ∈ rs, ∃ pl, valV phk (Sum.inr (SX.S r.nm)) = some (.ref pl) ∧ pl ≠ a ∧ Y pl = some (.lst (nmV (phs r.nm))) ∧ (phs r.nm).Perm (r.dn ++ r.up)
theorem Ph.go {Y Z : Hp} {a ph : Addr} {rs : List SRow} {phs : List Nat → List (List Nat)} {b : List V} (h : Ph Y a ph rs phs) (hb : Y a = some (.lst b)) (t : But a Y Z) : Ph Z a ph rs phs := by
  obtain ⟨phk, p1, p2⟩ := h
  refine ⟨phk, t _ _ (fun z => by rw [z, hb] at p1; cases p1) p1, fun r hr => ?_⟩
  obtain ⟨pl, h1, h2, h3, h4⟩ := p2 r hr
  exact ⟨pl, h1, h2, t _ _ h2 h3, h4⟩
theorem Ph.set {Y : Hp} {a ph gd : Addr} {rs : List SRow} {phs : List Nat → List (List Nat)} {kvs kvs' : List (Key × V)} (h : Ph Y a ph rs phs) (hg : Y gd = some (.dK kvs)) (n : ph ≠ gd) : Ph (upd Y gd (.dK kvs')) a ph rs phs := by
  obtain ⟨phk, p1, p2⟩ := h
  refine ⟨phk, by rw [upd_ne n]; exact p1, fun r hr => ?_⟩
  obtain ⟨pl, h1, h2, h3, h4⟩ := p2 r hr
  exact ⟨pl, h1, h2, by rw [upd_ne (fun z => by rw [z, hg] at h3; cases h3)]; exact h3, h4⟩
def sT (r : SRow) : T3 := ⟨r.nm, .tuple (r.dn.map strD), .tuple (r.up.map strD)⟩
def mT (r : MRow) : T3 := ⟨r.nm, strD r.so, .tuple (r.pt.map strD)⟩
theorem sT_d (rs : List SRow) : rs.map SRow.d = (rs.map sT).map T3.d := by
  rw [List.map_map]
  rfl
theorem mT_d (ms : List MRow) : ms.map MRow.d = (ms.map mT).map T3.d := by
  rw [List.map_map]
  rfl
/-- the rules of all makings -/
inductive RuAll (rs : List SRow) (roof : Nat) : List MRow → List RRow → Prop
  | nil : RuAll rs roof [] []
  | snoc {ms : List MRow} {ru pr : List RRow} {mr : MRow} {ks : List (List Nat)} : RuAll rs roof ms ru → RulesOk rs mr roof ks pr → RuAll rs roof (ms ++ [mr]) (ru ++ pr)
structure MOk (rs : List SRow) (mr : MRow) : Prop where
  nm : NmOk mr.nm
  so : ∀ k ∈ mr.places, ∃ r ∈ rs, r.nm = k
  p2 : mr.pt.length ≤ 2
structure GramOk (rs : List SRow) (ms : List MRow) (ru : List RRow) (roof : Nat) : Prop where
  so : SortsOk rs
  s1 : 1 ≤ rs.length
  nd : (ms.map MRow.nm).Nodup
  ok : ∀ m ∈ ms, MOk rs m
  m8 : ms.length ≤ 8
  m1 : rs.length ≤ ms.length
  ru : RuAll rs roof ms ru
  rf : roof ≤ 9
structure GramIn (K : PySem.W.Frag) (Y : Hp) (a gd : Addr) (rs : List SRow) (ms : List MRow) (ru : List RRow) (roof : Nat) : Prop where
  ex : ∃ ls lm lr of kvs, Gs K (fun _ => none) Y a gd ls lm lr of rs ms ru roof kvs ∧ ∃ by_ byk, valV kvs (Sum.inr "by") = some (.ref by_) ∧ by_ ≠ gd ∧ Y by_ = some (.dK byk) ∧ byk.map (·.1) = ms.map (fun m => kS m.nm) ∧ ∀ m ∈ ms, ∃ v, valV byk (kS m.nm) = some v ∧ Dp K Y v (.tuple [strD m.so, .tuple (m.pt.map strD)])
abbrev s__law_drawn : Stmt := top 62
abbrev N__law_drawn : List Str := ["_law_box", "_law_roof", "_law_wild", "_law_kinds", "_law_g", "_law_phases", "_law_k", "_law_name", "_law_kind", "_law_size", "_law_row", "_law_turn"]
abbrev P__law_drawn : List Str := ["_law_box", "_law_roof", "_law_wild"]
theorem sc__law_drawn : FnScope N__law_drawn P__law_drawn (defScope s__law_drawn) := ⟨rfl, rfl, rfl, by decide +kernel, rfl, by decide +kernel, by decide +kernel⟩
structure Dw (mg : Str → Option Value) : Prop where
  range : mg "range" = none
  len : mg "len" = none
  dict : mg "dict" = none
  tuple : mg "tuple" = none
  enumerate : mg "enumerate" = none
def spDrawn (K : PySem.W.Frag) : Sp := fun vs H Q _ => ∃ (a : Addr) (roof m : Nat) (wv : V) (wb : Bool) (wn : Nat) (b : List V), vs = [.ref a, .int roof, wv] ∧ Dp K H wv (.tuple [.bool wb, .int (wn : Nat)]) ∧ 0 < wn ∧ wn < 1000000 ∧ roof ≤ 9 ∧ H a = some (.lst b) ∧ BoxL m b ∧ m + 8000 < 900000 ∧
  ∀ (H' : Hp) (gd : Addr) (rs : List SRow) (ms : List MRow) (ru : List RRow) (b' : List V), But a H H' → H gd = none → GramIn K H' a gd rs ms ru roof → GramOk rs ms ru roof → H' a = some (.lst b') → BoxL (m + 8000) b' → Q (.ref gd) H'
theorem find_row {xs : List (SRow × Addr × List (List Nat))} (hn : (xs.map fun x => x.1.nm).Nodup) : ∀ x ∈ xs, xs.find? (fun y => decide (y.1.nm = x.1.nm)) = some x := by
  induction xs with
  | nil => exact fun x h => nomatch h
  | cons y ys ih =>
    intro x hx
    rw [List.map_cons, List.nodup_cons] at hn
    rw [List.find?_cons]
    rcases List.mem_cons.mp hx with rfl | hx
    · rw [decide_eq_true rfl]
    · rw [decide_eq_false fun z => hn.1 (by rw [z]; exact List.mem_map_of_mem hx)]
      exact ih hn.2 x hx
theorem paired_mem {α β : Type} {R : α → β → Prop} : ∀ {xs : List α} {ys : List β}, Paired R xs ys → ∀ y ∈ ys, ∃ x, R x y
  | _, _, .nil, y, h => nomatch h
  | _, _, .cons a r, y, h => by
    rcases List.mem_cons.mp h with rfl | h
    · exact ⟨_, a⟩
    · exact paired_mem r y h
theorem paired_map {α β γ : Type} {R : α → γ → Prop} {f : β → γ} : ∀ {xs : List α} {ys : List β}, Paired (fun x y => R x (f y)) xs ys → Paired R xs (ys.map f)
  | _, _, .nil => .nil
  | _, _, .cons a r => .cons a (paired_map r)
theorem names_dp {K : PySem.W.Frag} {H : Hp} {v : V} {ws : List (List Nat)} (h : Dp K H v (.tuple (ws.map strD))) : ∃ t, v = .ref t ∧ SqT K H t (nmV ws) := by
  cases h with
  | tup h1 h2 =>
    rw [names_of h2] at h1
    exact ⟨_, rfl, h1⟩
theorem rr_at {K : PySem.W.Frag} {H : Hp} {v : V} {r : RRow} (h : Dp K H v r.d) : ∃ q v2 v4, v = .ref q ∧ SqT K H q [.str (SX.S r.ma), v2, .str (SX.S r.op), v4] ∧ Dp K H v2 r.tg.d := by
  cases h with
  | tup hS hA =>
    cases hA with
    | cons a1 hA =>
      cases hA with
      | cons a2 hA =>
        cases hA with
        | cons a3 hA =>
          cases hA with
          | cons a4 hA =>
            cases hA
            cases a1
            cases a3
            exact ⟨_, _, _, rfl, hS, a2⟩
theorem m_imm (m : MRow) : imm (mT m).r = true := by
  show (true && (immAll (m.pt.map strD) && true)) = true
  rw [immAll_map strD_imm]
  rfl
theorem key_depth (w : List Nat) (e : En) : (keyD (.tuple [strD w, e.d])).depth ≤ 8 := by
  cases e with
  | sp p w' => exact (by decide : 2 ≤ 8)
  | kept w' => exact (by decide : 2 ≤ 8)
theorem Gs.any {K : PySem.W.Frag} {H Y : Hp} {a gd ls lm lr of : Addr} {rs : List SRow} {ms : List MRow} {ru : List RRow} {roof : Nat} {kvs : List (Key × V)} (h : Gs K H Y a gd ls lm lr of rs ms ru roof kvs) : Gs K (fun _ => none) Y a gd ls lm lr of rs ms ru roof kvs :=
  { h with bt := (fun c o _ hc => nomatch hc), nH := rfl }
section
variable {P : Program} {w : World} {K : PySem.W.Frag} {mg : Str → Option Value} {base : Heap}
theorem ok_drawn (T : Dw mg) (c_law_take : C8.Cal P w K mg base 1 "_law_take" spTake []) (c_law_named : C8.Cal P w K mg base 2 "_law_named" spNamed []) (c_law_strewn : C8.Cal P w K mg base 2 "_law_strewn" (spStrewnT K) []) (c_law_one_of : C8.Cal P w K mg base 2 "_law_one_of" (spOneOf K) []) (c_law_sort_rows : C8.Cal P w K mg base 3 "_law_sort_rows" (spSortRows K) []) (c_law_rules_for : C8.Cal P w K mg base 3 "_law_rules_for" (spRules K) [])
    (D : Dd K mg "_law_drawn" s__law_drawn P__law_drawn) : C8.Cal P w K mg base 4 "_law_drawn" (spDrawn K) [] := by
  refine D.cal sc__law_drawn (fun vs H Q E h => ?_) (fun f cdv A outer s H vs Q E hr h => ?_)
  · obtain ⟨a, roof, m, wv, wb, wn, b, rfl, _⟩ := h
    rfl
  · obtain ⟨a, roof, m, wv, wb, wn, b, rfl, hwv, w0, w1, hroof, ha, hB, hm, q⟩ := h
    refine ⟨_, (C8.pss_cut (ps_set (i := 3) sc__law_drawn.nd rfl (Or.inr rfl) (C8.pe_c c_law_sort_rows hr (by decide) (by rfl) (pa_cons (pv 0) (pa_cons (pe_op op_add pe_int (C8.pe_c c_law_take hr (by decide) (by rfl) (pa_cons (pv 0) (pa_cons pe_int pa_nil)))) pa_nil))))
        (C8.pss_cut (ps_set (i := 4) sc__law_drawn.nd rfl (Or.inl rfl) (pe_disp (pps_cons pe_str (pv 1) (pps_cons pe_str (pv 3) (pps_cons pe_str (pe_lst pa_nil) (pps_cons pe_str (pe_lst pa_nil) (pps_cons pe_str (pe_callTy (call_dictP rfl) (by rfl) T.dict (by decide +kernel) (pa_cons (pe_lc (own := [("_law_row", 10)]) (by exact rfl) sc__law_drawn.nd (pi_list (pv 3)) (blkOk_by (own := [("_law_row", 10)]) (N := N__law_drawn) (sc := defScope s__law_drawn) (by decide +kernel)) (fun _ _ _ _ _ => (pg_name (i := 10) sc__law_drawn.nd rfl (Or.inl rfl))) (fun _ _ _ _ _ => pts_nil) (fun _ _ _ _ _ => (pe_tup (pa_cons (pe_ix (r := rIxT K) ix_tup (pv 10) pe_int (fun _ _ => rfl)) (pa_cons (pe_slice (r := rSlAny K) sl_any (pv 10) (po_some pe_int) po_none) pa_nil))))) pa_nil)) pps_nil))))) (by rfl) (by rfl) (fun z => by cases z) (by decide)))
        (C8.pss_cut (ps_set (i := 5) sc__law_drawn.nd rfl (Or.inl rfl) (pe_callTy (call_dictP rfl) (by rfl) T.dict (by decide +kernel) (pa_cons (pe_lc (own := [("_law_row", 10)]) (by exact rfl) sc__law_drawn.nd (pi_list (pv 3)) (blkOk_by (own := [("_law_row", 10)]) (N := N__law_drawn) (sc := defScope s__law_drawn) (by decide +kernel)) (fun _ _ _ _ _ => (pg_name (i := 10) sc__law_drawn.nd rfl (Or.inl rfl))) (fun _ _ _ _ _ => pts_nil) (fun _ _ _ _ _ => (pe_tup (pa_cons (pe_ix (r := rIxT K) ix_tup (pv 10) pe_int (fun _ _ => rfl)) (pa_cons (C8.pe_c c_law_strewn hr (by decide) (by rfl) (pa_cons (pv 0) (pa_cons (pe_op (r := rCatAny K) op_catAny (pe_ix (r := rIxT K) ix_tup (pv 10) pe_int (fun _ _ => rfl)) (pe_ix (r := rIxT K) ix_tup (pv 10) pe_int (fun _ _ => rfl))) pa_nil))) pa_nil))))) pa_nil)))
        (C8.pss_cut (ps_for PassesOwn.never rfl (pi_enum (by rfl) T.enumerate (pa_cons (C8.pe_c c_law_named hr (by decide) (by rfl) (pa_cons (pv 0) (pa_cons (pe_op op_add (pe_callB call_len_seq (by rfl) T.len PySem.boot_len (pa_cons (pv 3) pa_nil)) (C8.pe_c c_law_take hr (by decide) (by rfl) (pa_cons (pv 0) (pa_cons (pe_op op_sub pe_int (pe_callB call_len_seq (by rfl) T.len PySem.boot_len (pa_cons (pv 3) pa_nil))) pa_nil)))) pa_nil))) pa_nil)) (pg_tup rfl (pgs_cons (pg_name (i := 6) sc__law_drawn.nd rfl (Or.inl rfl)) (pgs_cons (pg_name (i := 7) sc__law_drawn.nd rfl (Or.inl rfl)) pgs_nil)))
          (pss_cons (ps_par rfl sc__law_drawn.nd (i := 8) (j := 9) rfl rfl (by decide) rfl rfl (pa_cons (pe_ix (r := rIxT K) ix_tup (C8.pe_c c_law_one_of hr (by decide) (by rfl) (pa_cons (pv 0) (pa_cons (pv 3) pa_nil))) pe_int (fun _ _ => rfl)) (pa_cons (pe_ix ix_list (pe_lst (pa_cons pe_int (pa_cons pe_int (pa_cons pe_int (pa_cons pe_int pa_nil))))) (C8.pe_c c_law_take hr (by decide) (by rfl) (pa_cons (pv 0) (pa_cons pe_int pa_nil))) (fun _ _ => rfl)) pa_nil)) (by rfl))
        (C8.pss_cut (ps_if (PW.pt (pw_and (pt_cmpR op_lt (pv 6) (pe_callB call_len_seq (by rfl) T.len PySem.boot_len (pa_cons (pv 3) pa_nil)) (nomark _)) (pw_and1 (pt_cmpR op_gt (C8.pe_c c_law_take hr (by decide) (by rfl) (pa_cons (pv 0) (pa_cons pe_int pa_nil))) pe_int (nomark _)))))
          (pss_one (ps_par rfl sc__law_drawn.nd (i := 8) (j := 9) rfl rfl (by decide) rfl rfl (pa_cons (pe_ix (r := rIxT K) ix_tup (pe_ix ix_list (pv 3) (pv 6) (fun _ _ => rfl)) pe_int (fun _ _ => rfl)) (pa_cons pe_int pa_nil)) (by rfl)))
          pss_nil)
        (C8.pss_cut (ps_set (i := 10) sc__law_drawn.nd rfl (Or.inl rfl) (pe_tup (pa_cons (pv 7) (pa_cons (pv 8) (pa_cons (pe_callTy call_tuple_of (by rfl) T.tuple (by decide +kernel) (pa_cons (pe_lc (own := [("_law_turn", 11)]) (by exact rfl) sc__law_drawn.nd (pi_range1 rfl T.range (pa_cons (pv 9) pa_nil)) (blkOk_by (own := [("_law_turn", 11)]) (N := N__law_drawn) (sc := defScope s__law_drawn) (by decide +kernel)) (fun _ _ _ _ _ => (pg_name (i := 11) sc__law_drawn.nd rfl (Or.inl rfl))) (fun _ _ _ _ _ => pts_nil) (fun _ _ _ _ _ => (pe_ix (r := rIxT K) ix_tup (C8.pe_c c_law_one_of hr (by decide) (by rfl) (pa_cons (pv 0) (pa_cons (pv 3) pa_nil))) pe_int (fun _ _ => rfl)))) pa_nil)) pa_nil)))))
        (C8.pss_cut (ps_dput (hu_of hr) (pv 4) pe_str (pe_op op_cat (pe_dget (hu_of hr) (pv 4) pe_str (fun _ _ => rfl)) (pe_lst (pa_cons (pv 10) pa_nil))) (by rfl))
        (pss_one (ps_dput (hu_of hr) (pv 4) pe_str (pe_op op_cat (pe_dget (hu_of hr) (pv 4) pe_str (fun _ _ => rfl)) (C8.pe_c c_law_rules_for hr (by decide) (by rfl) (pa_cons (pv 0) (pa_cons (pv 4) (pa_cons (pv 10) (pa_cons (pv 5) (pa_cons (pv 2) pa_nil))))))) (by rfl))))))))
        (C8.pss_cut (ps_dput (hu_of hr) (pv 4) pe_str (pe_callTy (call_dictP rfl) (by rfl) T.dict (by decide +kernel) (pa_cons (pe_lc (own := [("_law_row", 10)]) (by exact rfl) sc__law_drawn.nd (pi_list (pe_dget (hu_of hr) (pv 4) pe_str (fun _ _ => rfl))) (blkOk_by (own := [("_law_row", 10)]) (N := N__law_drawn) (sc := defScope s__law_drawn) (by decide +kernel)) (fun _ _ _ _ _ => (pg_name (i := 10) sc__law_drawn.nd rfl (Or.inl rfl))) (fun _ _ _ _ _ => pts_nil) (fun _ _ _ _ _ => (pe_tup (pa_cons (pe_ix (r := rIxT K) ix_tup (pv 10) pe_int (fun _ _ => rfl)) (pa_cons (pe_slice (r := rSlAny K) sl_any (pv 10) (po_some pe_int) po_none) pa_nil))))) pa_nil)) (by rfl))
        (pss_cons (ps_dput (hu_of hr) (pv 4) pe_str (pe_callTy (call_dictN (hu65 hr) rfl) (by rfl) T.dict (by decide +kernel) (pa_cons (pe_lc (own := [("_law_row", 10)]) (by exact rfl) sc__law_drawn.nd (pi_list (pe_dget (hu_of hr) (pv 4) pe_str (fun _ _ => rfl))) (blkOk_by (own := [("_law_row", 10)]) (N := N__law_drawn) (sc := defScope s__law_drawn) (by decide +kernel)) (fun _ _ _ _ _ => (pg_name (i := 10) sc__law_drawn.nd rfl (Or.inl rfl))) (fun _ _ _ _ _ => pts_nil) (fun _ _ _ _ _ => (pe_tup (pa_cons (pe_slice (r := rSlAny K) sl_any (pv 10) po_none (po_some pe_int)) (pa_cons (pe_slice (r := rSlAny K) sl_any (pv 10) (po_some pe_int) po_none) pa_nil))))) pa_nil)) (by rfl))
        (pss_one (ps_ret (pv 4))))))))), ?_⟩
    -- the sorts
    refine ⟨fun σ X => ∃ (ls : Addr) (sv b1 : List V) (rs : List SRow), σ = [some (.ref a), some (.int (roof : Nat)), some wv, some (.ref ls), none, none, none, none, none, none, none, none] ∧ But a H X ∧ H ls = none ∧ X ls = some (.lst sv) ∧ DpAll K X sv (rs.map SRow.d) ∧ SortsOk rs ∧ 1 ≤ rs.length ∧ rs.length ≤ 4 ∧ X a = some (.lst b1) ∧ BoxL (m + 301) b1, ?_, ?_⟩
    · refine ⟨_, rfl, _, rfl, a, 4, _, b, rfl, ha, hB, by omega, by decide, by decide, fun r0 b1 h0 h0' hB1 => ?_⟩
      obtain ⟨n0, rfl⟩ := Int.eq_ofNat_of_zero_le h0
      have bt0 : But a H (upd H a (.lst b1)) := But.upd (But.refl a H)
      refine ⟨_, _, rfl, rfl, a, 1 + n0, m + 1, b1, rfl, by omega, by omega, upd_same, hB1, by omega, fun X ls sv rs b2 bt nls hls hsv hrl hrs hb2 hB2 => ?_⟩
      exact ⟨ls, sv, b2, rs, rfl, bt0.trans bt, But.free bt0 upd_same nls, hls, hsv, hrs, by omega, by omega, hb2, hB2.mono (by omega)⟩
    rintro σ X0 ⟨ls, sv, b1, rs, rfl, bt0, nls, hls0, hsv0, hrs, rs1, rs4, hb0, hB0⟩
    have off : ∀ {x : Addr}, H x = none → x ≠ a := fun {x} h z => by
      rw [z, ha] at h
      cases h
    have ndr : (rs.map fun r => r.nm).Nodup := hrs.nd
    have ndk : ((rs.map sT).map fun t => kS t.k).Nodup := by
      rw [show ((rs.map sT).map fun t => kS t.k) = (rs.map fun r => r.nm).map kS by rw [List.map_map, List.map_map]; rfl]
      exact List.pairwise_map.mpr (ndr.imp fun h z => h (kS_inj z))
    -- the grammar
    refine ⟨fun σ X => ∃ (gd lm lr of : Addr) (kvs : List (Key × V)), σ = [some (.ref a), some (.int (roof : Nat)), some wv, some (.ref ls), some (.ref gd), none, none, none, none, none, none, none] ∧ Gs K H X a gd ls lm lr of rs [] [] roof kvs ∧ kvs.length ≤ 5 ∧ X a = some (.lst b1), ?_, ?_⟩
    · refine fun gd ngd => ?_
      have g0 := same_upd (o := .dK []) ngd
      refine ⟨_, rfl, _, rfl, by show 0 ≤ sizeLine; decide, fun lm nlm => ⟨by show 0 ≤ sizeLine; decide, fun lr nlr => ?_⟩⟩
      have g1 := same_upd (o := .lst []) nlm
      have g2 := same_upd (o := .lst []) nlr
      have g02 := (g0.trans g1).trans g2
      refine ⟨_, rfl, ls, rfl, ⟨_, SqL.of (g02 _ _ hls0)⟩, fun D nD => ?_⟩
      refine lc_of (ts := rs.map sT) (g02 _ _ hls0) (by rw [← sT_d]; exact dpAll_same g02 hsv0) (fun t ht => ?_) (by rw [List.length_map]; omega) nD fun U ps sU hD hp => ?_
      · obtain ⟨r, _, rfl⟩ := List.mem_map.mp ht
        exact up_imm r
      obtain ⟨kvs, k1, k2, k3⟩ := hp.kvs
      refine ⟨D, ps, kvs, rfl, SqL.of hD, k1, fun of nof => ?_⟩
      have g3 := same_upd (o := .dK (mergeK [] kvs)) nof
      have hgd : (upd U of (.dK (mergeK [] kvs))) gd = some (.dK []) := (g1.trans (g2.trans (sU.trans g3))) _ _ upd_same
      refine ⟨hgd, [(Sum.inr "cap", .int (roof : Nat)), (Sum.inr "sorts", .ref ls), (Sum.inr "makings", .ref lm), (Sum.inr "rules", .ref lr), (Sum.inr "of", .ref of)], rfl, by show 5 ≤ 15; decide, ?_⟩
      have sA : Same X0 (upd U of (.dK (mergeK [] kvs))) := g02.trans (sU.trans g3)
      have hlm : (upd U of (.dK (mergeK [] kvs))) lm = some (.lst []) := (g2.trans (sU.trans g3)) _ _ upd_same
      have hlr : (upd U of (.dK (mergeK [] kvs))) lr = some (.lst []) := (sU.trans g3) _ _ upd_same
      have ngH : H gd = none := But.free bt0 hb0 ngd
      have bA := bt0.trans (But.of (a := a) sA)
      have n2 : lm ≠ a := fun z => by
        have := sA _ _ hb0
        rw [← z, hlm] at this
        rw [z, (g0 _ _ hb0)] at nlm
        cases nlm
      have n3 : lr ≠ a := fun z => by
        rw [z, ((g0.trans g1) _ _ hb0)] at nlr
        cases nlr
      have n4 : of ≠ gd := fun z => by
        rw [z, (g1.trans (g2.trans sU)) _ _ upd_same] at nof
        cases nof
      have kk : KeepT (upd U of (.dK (mergeK [] kvs))) (upd (upd U of (.dK (mergeK [] kvs))) gd (.dK (mergeK [] [(Sum.inr "cap", .int (roof : Nat)), (Sum.inr "sorts", .ref ls), (Sum.inr "makings", .ref lm), (Sum.inr "rules", .ref lr), (Sum.inr "of", .ref of)]))) := KeepT.at_ hgd dK_no
      have nl : ∀ {d : Addr} {xs : List V}, (upd U of (.dK (mergeK [] kvs))) d = some (.lst xs) → d ≠ gd := fun {d xs} h' z => by
        rw [z, hgd] at h'
        cases h'
      refine ⟨gd, lm, lr, of, _, rfl, ⟨fun c o nc hc => ?_, upd_same, ngH, rfl, rfl, rfl, rfl, rfl, ⟨sv, ?_, dpAll_imm kk (dpAll_same sA hsv0) (immAll_map SRow.imm rs)⟩, ⟨[], ?_, .nil⟩, ⟨[], ?_, .nil⟩, ⟨mergeK [] kvs, ?_, (merge_keys kvs [] (by show (kvs.map (·.1)).Nodup; rw [k2]; exact ndk)).trans (by show kvs.map (·.1) = _; rw [k2, List.map_map]; rfl), fun r hr => ?_⟩, off nls, n2, n3, n4⟩, length_mergeK _ [], ?_⟩
      · rw [upd_ne (ne_of_none hc ngH)]
        exact bA c o nc hc
      · rw [upd_ne (nl (sA _ _ hls0))]
        exact sA _ _ hls0
      · rw [upd_ne (nl hlm)]
        exact hlm
      · rw [upd_ne (nl hlr)]
        exact hlr
      · rw [upd_ne n4]
        exact upd_same
      · obtain ⟨v, h1, h2⟩ := k3 (sT r) (List.mem_map_of_mem hr)
        exact ⟨v, merge_in kvs [] (by rw [k2]; exact ndk) _ h1, dp_imm kk (dp_same g3 h2) (up_imm r)⟩
      · rw [upd_ne (nl (sA _ _ hb0)).symm.symm]
        exact sA _ _ hb0
    rintro σ X1 ⟨gd, lm, lr, of, kvs, rfl, gs1, kl1, hb1⟩
    obtain ⟨sv1, hls1, hsv1⟩ := gs1.hls
    -- the phases
    refine ⟨fun σ X => ∃ (ph : Addr) (phs : List Nat → List (List Nat)) (b2 : List V), σ = [some (.ref a), some (.int (roof : Nat)), some wv, some (.ref ls), some (.ref gd), some (.ref ph), none, none, none, none, none, none] ∧ Gs K H X a gd ls lm lr of rs [] [] roof kvs ∧ Ph X a ph rs phs ∧ ph ≠ gd ∧ X a = some (.lst b2) ∧ BoxL (m + 320) b2, ?_, ?_⟩
    · refine ⟨_, rfl, ls, rfl, ⟨_, SqL.of hls1⟩, fun D nD => ?_⟩
      refine lc_list (K := K) (a := ls) (xs := sv1) (fun j U => But a X1 U ∧ ∃ (ps : List Addr) (xs : List (SRow × Addr × List (List Nat))) (b' : List V), U D = some (.lst (ps.map V.ref)) ∧ U a = some (.lst b') ∧ BoxL (m + 301 + 4 * j) b' ∧ Paired (fun p x => SqT K U p [.str (SX.S x.1.nm), .ref x.2.1] ∧ x.2.1 ≠ a ∧ x.2.1 ≠ D ∧ U x.2.1 = some (.lst (nmV x.2.2)) ∧ x.2.2.Perm (x.1.dn ++ x.1.up)) ps xs ∧ xs.map (·.1) = rs.take j) ⟨But.of (same_upd nD), [], [], b1, upd_same, ?_, hB0, .nil, rfl⟩ (fun j U _ h => SqL.of (h.1 _ _ gs1.n1 hls1)) ?_ ?_
      · exact same_upd nD _ _ hb1
      · rintro j x U hx ⟨bU, ps, xs, b', hD, hb', hB', hp, hxs⟩
        obtain ⟨dd, hdd, hxd⟩ := dpAll_at hsv1 hx
        rw [List.getElem?_map] at hdd
        obtain ⟨r, hr, rfl⟩ : ∃ r, rs[j]? = some r ∧ dd = r.d := by
          cases h : rs[j]? with
          | none => rw [h] at hdd; cases hdd
          | some e => rw [h] at hdd; exact ⟨e, rfl, (Option.some.inj hdd).symm⟩
        have hj : j < rs.length := (List.getElem?_eq_some_iff.mp hr).1
        have rok := hrs.ok r (List.mem_of_getElem? hr)
        have rd2 := rok.d2
        have ru2 := rok.u2
        have kU := KeepT.but hb1 bU
        have tk : rs.take (j + 1) = rs.take j ++ [r] := by rw [List.take_add_one, hr]; rfl
        have lp := paired_len hp
        have lx : xs.length = j := by
          have := congrArg List.length hxs
          rw [List.length_map, List.length_take] at this
          omega
        obtain ⟨q, v1, v2, rfl, hq, h1, h2⟩ := t3_at (t := sT r) (dp_imm kU hxd r.imm)
        obtain ⟨td, rfl, htd⟩ := names_dp h1
        obtain ⟨tu, rfl, htu⟩ := names_dp h2
        refine ⟨rfl, yesT ?_⟩
        refine ⟨_, rfl, q, _, 0, .str (SX.S r.nm), rfl, rfl, hq, atI_nat (j := 0) rfl, _, rfl, _, rfl, q, _, 1, .ref td, rfl, rfl, hq, atI_nat (j := 1) rfl, _, rfl, q, _, 2, .ref tu, rfl, rfl, hq, atI_nat (j := 2) rfl, td, tu, nmV r.dn, nmV r.up, rfl, rfl, htd, htu, ?_, fun U1 tc s1 htc => ?_⟩
        · rw [nmV_len, nmV_len]
          exact Nat.le_trans (show _ ≤ 4 by omega) (by decide)
        have lc : (nmV r.dn ++ nmV r.up).length ≤ 4 := by
          rw [List.length_append, nmV_len, nmV_len]
          omega
        refine ⟨a, tc, _, b', _, rfl, s1 _ _ hb', hB', by omega, htc, by omega, fun U2 l ys b2 bt2 nl hl hpm hb2 hB2 => ?_⟩
        obtain ⟨ws, rfl, hws⟩ := perm_map hpm (r.dn ++ r.up) (by unfold nmV; rw [List.map_append])
        refine ⟨by show 2 ≤ sizeLine; decide, fun p3 n3 => ?_⟩
        have s3 := same_upd (o := .tup [.str (SX.S r.nm), .ref l]) n3
        have nDa : D ≠ a := fun z => by
          rw [z, hb1] at nD
          cases nD
        have nlU : U l = none := s1.free nl
        have nla : l ≠ a := fun z => by
          rw [z, hb'] at nlU
          cases nlU
        have nlD : l ≠ D := fun z => by
          rw [z, hD] at nlU
          cases nlU
        have b13 : But a U (upd U2 p3 (.tup [.str (SX.S r.nm), .ref l])) := ((But.of s1).trans bt2).trans (But.of s3)
        have hD3 := b13 _ _ nDa hD
        have hl3 := s3 _ _ hl
        have hb3 := s3 _ _ hb2
        have ht3 : SqT K (upd U2 p3 (.tup [.str (SX.S r.nm), .ref l])) p3 [.str (SX.S r.nm), .ref l] := SqT.of upd_same
        have k3 := KeepT.but hb' b13
        obtain ⟨U3, eU3⟩ : ∃ U3, U3 = upd U2 p3 (.tup [.str (SX.S r.nm), .ref l]) := ⟨_, rfl⟩
        rw [← eU3] at b13 hD3 hl3 hb3 ht3 k3 ⊢
        have kk : KeepT U3 (upd U3 D (.lst (ps.map V.ref ++ [.ref p3]))) := KeepT.at_ hD3 lst_no
        refine ⟨_, hD3, small1000 (by rw [List.length_map]; omega), fun c o nc hc => ?_, ps ++ [p3], xs ++ [(r, l, ws)], b2, ?_, ?_, hB2.mono (by omega), paired_snoc (paired_mono (fun p x h => ?_) hp) ⟨kk.seqT ht3, nla, nlD, ?_, hws⟩, ?_⟩
        · rw [upd_ne (ne_of_none hc nD)]
          exact (bU.trans b13) c o nc hc
        · rw [List.map_append]
          exact upd_same
        · rw [upd_ne nDa.symm]
          exact hb3
        · obtain ⟨q1, q2, q3, q4, q5⟩ := h
          exact ⟨(k3.trans kk).seqT q1, q2, q3, by rw [upd_ne q3]; exact b13 _ _ q2 q4, q5⟩
        · rw [upd_ne nlD]
          exact hl3
        · rw [List.map_append, hxs, tk]
          rfl
      · rintro U ⟨bU, ps, xs, b', hD, hb', hB', hp, hxs⟩
        have lsv := dpAll_len hsv1
        rw [List.length_map] at lsv
        rw [lsv, List.take_length] at hxs
        have ekn : (xs.map fun x => ((kS x.1.nm, V.ref x.2.1) : Key × V)).map (·.1) = (rs.map fun r => r.nm).map kS := by
          rw [← hxs, List.map_map, List.map_map, List.map_map]
          rfl
        have nxn : (xs.map fun x => x.1.nm).Nodup := by
          rw [show (xs.map fun x => x.1.nm) = (xs.map (·.1)).map (fun r => r.nm) by rw [List.map_map]; rfl, hxs]
          exact ndr
        refine ⟨D, ps, xs.map fun x => (kS x.1.nm, V.ref x.2.1), rfl, SqL.of hD, paired_map (paired_mono (fun p x h => h.1) hp), fun ph nph => ?_⟩
        have g3 := same_upd (o := .dK (mergeK [] (xs.map fun x => (kS x.1.nm, V.ref x.2.1)))) nph
        have bA := bU.trans (But.of (a := a) g3)
        obtain ⟨phs, hphs⟩ : ∃ phs : List Nat → List (List Nat), ∀ x ∈ xs, phs x.1.nm = x.2.2 := ⟨fun k => ((xs.find? fun y => decide (y.1.nm = k)).map fun x => x.2.2).getD [], fun x hx => by
          show ((xs.find? fun y => decide (y.1.nm = x.1.nm)).map fun x => x.2.2).getD [] = _
          rw [find_row nxn x hx]
          rfl⟩
        refine ⟨ph, phs, b', rfl, gs1.go hb1 bA, ⟨_, upd_same, fun r hr => ?_⟩, ?_, g3 _ _ hb', hB'.mono (by omega)⟩
        · rw [← hxs] at hr
          obtain ⟨x, hx, rfl⟩ := List.mem_map.mp hr
          obtain ⟨p, q1, q2, q3, q4, q5⟩ := paired_mem hp x hx
          refine ⟨x.2.1, ?_, q2, ?_, ?_⟩
          · exact merge_in _ [] (by rw [ekn]; exact List.pairwise_map.mpr (ndr.imp fun h z => h (kS_inj z))) (kS x.1.nm, V.ref x.2.1) (List.mem_map_of_mem hx)
          · rw [hphs x hx]
            exact g3 _ _ q4
          · rw [hphs x hx]
            exact q5
        · exact fun z => by
            have := (gs1.go hb1 bU).hgd
            rw [← z, nph] at this
            cases this
    rintro σ X2 ⟨ph, phs, b2, rfl, gs2, ph2, npg, hb2, hB2⟩
    -- the makings
    refine ⟨fun σ Y => ∃ (y6 y7 y8 y9 y10 y11 : Option V) (lm lr : Addr) (ms : List MRow) (ru : List RRow) (kvs : List (Key × V)) (b' : List V), σ = [some (.ref a), some (.int (roof : Nat)), some wv, some (.ref ls), some (.ref gd), some (.ref ph), y6, y7, y8, y9, y10, y11] ∧ Gs K H Y a gd ls lm lr of rs ms ru roof kvs ∧ kvs.length ≤ 30 ∧ (ms.map MRow.nm).Nodup ∧ (∀ m ∈ ms, MOk rs m) ∧ ms.length ≤ 8 ∧ rs.length ≤ ms.length ∧ RuAll rs roof ms ru ∧ ru.length ≤ 240 ∧ Y a = some (.lst b') ∧ BoxL (m + 7000) b', ?_, ?_⟩
    · obtain ⟨sv2, hls2, hsv2⟩ := gs2.hls
      have lsv := dpAll_len hsv2
      rw [List.length_map] at lsv
      refine ⟨_, rfl, _, rfl, ls, sv2, rfl, .inl (SqL.of hls2), _, rfl, _, rfl, ls, sv2, rfl, .inl (SqL.of hls2), _, _, rfl, rfl, a, _, _, b2, rfl, hb2, hB2, by omega, by omega, by omega, fun r3 b3 h3 h3' hB3 => ?_⟩
      obtain ⟨n3, rfl⟩ := Int.eq_ofNat_of_zero_le h3
      have bt3 : But a X2 (upd X2 a (.lst b3)) := But.upd (But.refl a X2)
      have hb3 : (upd X2 a (.lst b3)) a = some (.lst b3) := upd_same
      obtain ⟨X3, e3⟩ : ∃ X3, X3 = upd X2 a (.lst b3) := ⟨_, rfl⟩
      rw [← e3] at bt3 hb3 ⊢
      refine ⟨_, _, rfl, rfl, a, sv2.length + n3, _, b3, rfl, by omega, hb3, hB3, by omega, fun X4 ln ws b4 bt4 nln hln hwl hwn hws hb4 hB4 => ?_⟩
      have bX4 := bt3.trans bt4
      have gs4 := gs2.go hb2 bX4
      have ph4 := ph2.go hb2 bX4
      have nln2 : X2 ln = none := But.free bt3 hb3 nln
      have nla : ln ≠ a := fun z => by
        rw [z, hb2] at nln2
        cases nln2
      have nlg : ln ≠ gd := fun z => by
        rw [z, gs2.hgd] at nln2
        cases nln2
      have lw8 : ws.length ≤ 8 := by omega
      refine ⟨ln, nmV ws, rfl, SqL.of hln, ?_⟩
      refine for_it walk_enum (fun j σ Y => ∃ (y6 y7 y8 y9 y10 y11 : Option V) (lm lr : Addr) (ms : List MRow) (ru : List RRow) (kvs : List (Key × V)) (b' : List V), σ = [some (.ref a), some (.int (roof : Nat)), some wv, some (.ref ls), some (.ref gd), some (.ref ph), y6, y7, y8, y9, y10, y11] ∧ Gs K H Y a gd ls lm lr of rs ms ru roof kvs ∧ kvs.length ≤ 5 + 2 * j ∧ Ph Y a ph rs phs ∧ ms.map MRow.nm = ws.take j ∧ (∀ m ∈ ms, MOk rs m) ∧ RuAll rs roof ms ru ∧ ru.length ≤ 30 * j ∧ Y a = some (.lst b') ∧ BoxL (m + 401 + 705 * j) b' ∧ Y ln = some (.lst (nmV ws)))
        ⟨none, none, none, none, none, none, lm, lr, [], [], kvs, b4, rfl, gs4, by omega, ph4, rfl, (fun m h => nomatch h), .nil, Nat.le_refl _, hb4, hB4.mono (by omega), hln⟩ (fun i σ Y _ ⟨_, _, _, _, _, _, _, _, _, _, _, _, _, _, _, _, _, _, _, _, _, _, h⟩ => SqL.of h) ?_ ?_
      · rintro j v σ Y0 Y hj ⟨y6, y7, y8, y9, y10, y11, lm, lr, ms, ru, kvs, b5, rfl, gs0, kl0, ph0, hms, hmo, hru, hrul, hb0, hB5, hlnY0⟩ ⟨TT, xx, yy, rfl, nT, rfl, ex, ey⟩
        cases ex
        rw [nmV_len] at hj
        have sT := same_upd (o := .tup [.int ((j : Nat) : Int), yy]) nT
        obtain ⟨nm, hnm, rfl⟩ : ∃ nm, ws[j]? = some nm ∧ yy = V.str (SX.S nm) := by
          replace ey : (nmV ws)[j]? = some yy := ey
          unfold nmV at ey
          rw [List.getElem?_map] at ey
          cases e : ws[j]? with
          | none => rw [e] at ey; cases ey
          | some u => rw [e] at ey; exact ⟨u, rfl, (Option.some.inj ey).symm⟩
        have gsY := gs0.go hb0 (But.of sT)
        have phY := ph0.go hb0 (But.of sT)
        have hbY := sT _ _ hb0
        have hlnY := sT _ _ hlnY0
        have hTT : SqT K (upd Y0 TT (.tup [.int ((j : Nat) : Int), .str (SX.S nm)])) TT [.int ((j : Nat) : Int), .str (SX.S nm)] := SqT.of upd_same
        obtain ⟨Y, eY⟩ : ∃ Y, Y = upd Y0 TT (.tup [.int ((j : Nat) : Int), .str (SX.S nm)]) := ⟨_, rfl⟩
        rw [← eY] at gsY phY hbY hlnY hTT ⊢
        clear sT ph0 gs0 hlnY0 hb0
        refine ⟨TT, _, rfl, hTT, rfl, _, _, rfl, _, _, rfl, rfl, ?_⟩
        obtain ⟨sv, hls, hsv⟩ := gsY.hls
        have lsv := dpAll_len hsv
        rw [List.length_map] at lsv
        -- one of the sorts, by its name
        have kindOf : ∀ {Z : Hp} {i : Nat} {v : V}, But a Y Z → sv[i]? = some v → ∃ r q v1 v2, r ∈ rs ∧ v = .ref q ∧ SqT K Z q [.str (SX.S r.nm), v1, v2] := fun {Z i v} bt hv => by
          obtain ⟨dd, hdd, hxd⟩ := dpAll_at hsv hv
          rw [List.getElem?_map] at hdd
          cases h : rs[i]? with
          | none => rw [h] at hdd; cases hdd
          | some r =>
            rw [h] at hdd
            cases hdd
            obtain ⟨q, v1, v2, e, hq, _, _⟩ := t3_at (t := sT r) (dp_imm (KeepT.but hbY bt) hxd r.imm)
            exact ⟨r, q, v1, v2, List.mem_of_getElem? h, e, hq⟩
        refine ⟨_, rfl, _, rfl, a, ls, _, b5, sv, rfl, hbY, hB5, by omega, SqL.of hls, gsY.n1, by omega, by omega, fun i1 v1 b6 hv1 hB6 => ?_⟩
        have bt6 : But a Y (upd Y a (.lst b6)) := But.upd (But.refl a Y)
        have hb6 : (upd Y a (.lst b6)) a = some (.lst b6) := upd_same
        obtain ⟨Y6, e6⟩ : ∃ Y6, Y6 = upd Y a (.lst b6) := ⟨_, rfl⟩
        rw [← e6] at bt6 hb6 ⊢
        obtain ⟨r, q, u1, u2, hr, rfl, hq⟩ := kindOf bt6 hv1
        refine ⟨q, _, 0, .str (SX.S r.nm), rfl, rfl, hq, atI_nat (j := 0) rfl, by show 4 ≤ sizeLine; decide, fun l0 n0 => ?_⟩
        have s7 := same_upd (o := .lst [.int 0, .int 1, .int 2, .int 2]) n0
        have hl0 : (upd Y6 l0 (.lst [.int 0, .int 1, .int 2, .int 2])) l0 = some (.lst [.int 0, .int 1, .int 2, .int 2]) := upd_same
        have n0a : l0 ≠ a := fun z => by
          rw [z, hb6] at n0
          cases n0
        refine ⟨_, rfl, a, 4, _, b6, rfl, s7 _ _ hb6, hB6, by omega, by decide, by decide, fun t0 b7 h0 h0' hB7 => ?_⟩
        obtain ⟨tn, rfl⟩ := Int.eq_ofNat_of_zero_le h0
        have bt7 : But a Y (upd (upd Y6 l0 (.lst [.int 0, .int 1, .int 2, .int 2])) a (.lst b7)) := bt6.trans ((But.of s7).trans (But.upd (But.refl a _)))
        have hb7 : (upd (upd Y6 l0 (.lst [.int 0, .int 1, .int 2, .int 2])) a (.lst b7)) a = some (.lst b7) := upd_same
        have hl7 : (upd (upd Y6 l0 (.lst [.int 0, .int 1, .int 2, .int 2])) a (.lst b7)) l0 = some (.lst [.int 0, .int 1, .int 2, .int 2]) := by
          rw [upd_ne n0a]
          exact hl0
        obtain ⟨Y7, e7⟩ : ∃ Y7, Y7 = upd (upd Y6 l0 (.lst [.int 0, .int 1, .int 2, .int 2])) a (.lst b7) := ⟨_, rfl⟩
        rw [← e7] at bt7 hb7 hl7 ⊢
        obtain ⟨sz, hat, hsz⟩ : ∃ sz : Nat, atI [V.int 0, V.int 1, V.int 2, V.int 2] ((tn : Nat) : Int) = some (.int (sz : Nat)) ∧ sz ≤ 2 := by
          have : tn < 4 := by omega
          rcases tn with _ | _ | _ | _ | tn
          · exact ⟨0, atI_nat (j := 0) rfl, by decide⟩
          · exact ⟨1, atI_nat (j := 1) rfl, by decide⟩
          · exact ⟨2, atI_nat (j := 2) rfl, by decide⟩
          · exact ⟨2, atI_nat (j := 3) rfl, by decide⟩
          · omega
        refine ⟨l0, _, _, _, rfl, rfl, SqL.of hl7, hat, _, _, rfl, ?_⟩
        -- or the sort that needs one
        refine ⟨fun σ Z => ∃ (k : List Nat) (sz : Nat) (b8 : List V), σ = [some (.ref a), some (.int (roof : Nat)), some wv, some (.ref ls), some (.ref gd), some (.ref ph), some (.int ((j : Nat) : Int)), some (.str (SX.S nm)), some (.str (SX.S k)), some (.int (sz : Nat)), y10, y11] ∧ (∃ r ∈ rs, r.nm = k) ∧ sz ≤ 2 ∧ But a Y Z ∧ Z a = some (.lst b8) ∧ BoxL (m + 401 + 705 * j + 3) b8, ?_, ?_⟩
        · refine ⟨_, rfl, _, rfl, ls, sv, rfl, .inl (SqL.of (bt7 _ _ gsY.n1 hls)), _, _, rfl, rfl, _, rfl, ?_⟩
          by_cases hjl : ((j : Nat) : Int) < ((sv.length : Nat) : Int)
          · refine ifT (decide_eq_true hjl) ?_
            refine ⟨_, rfl, a, 24, _, b7, rfl, hb7, hB7, by omega, by decide, by decide, fun t1 b8 h1 h1' hB8 => ?_⟩
            have bt8 : But a Y (upd Y7 a (.lst b8)) := bt7.trans (But.upd (But.refl a _))
            refine ⟨_, _, rfl, rfl, _, rfl, ?_⟩
            by_cases ht1 : 0 < t1
            · refine ifT (decide_eq_true ht1) ?_
              have hjn : j < sv.length := by omega
              have hv2 : sv[j]? = some sv[j] := List.getElem?_eq_getElem hjn
              obtain ⟨r', q', w1', w2', hr', ev, hq'⟩ := kindOf bt8 hv2
              refine ⟨_, rfl, _, rfl, ls, sv, _, sv[j], rfl, rfl, SqL.of (bt8 _ _ gsY.n1 hls), atI_nat (j := j) hv2, ?_⟩
              rw [ev]
              exact ⟨q', _, 0, .str (SX.S r'.nm), rfl, rfl, hq', atI_nat (j := 0) rfl, _, _, rfl, r'.nm, 0, b8, rfl, ⟨r', hr', rfl⟩, by decide, bt8, upd_same, hB8⟩
            · exact ifF (decide_eq_false ht1) ⟨r.nm, sz, b8, rfl, ⟨r, hr, rfl⟩, hsz, bt8, upd_same, hB8⟩
          · exact ifF (decide_eq_false hjl) ⟨r.nm, sz, b7, rfl, ⟨r, hr, rfl⟩, hsz, bt7, hb7, hB7.mono (by omega)⟩
        clear hat hsz hl7 hb7 bt7 e7 Y7 hB7 hq bt6 hb6 e6 hB6
        rintro σ Y8 ⟨k, sz, b8, rfl, hk, hsz, bt8, hb8, hB8⟩
        -- the row
        refine ⟨fun σ Z => ∃ (mr : MRow) (rowv : V) (b9 : List V) (y11 : Option V), σ = [some (.ref a), some (.int (roof : Nat)), some wv, some (.ref ls), some (.ref gd), some (.ref ph), some (.int ((j : Nat) : Int)), some (.str (SX.S nm)), some (.str (SX.S k)), some (.int (sz : Nat)), some rowv, y11] ∧ mr.nm = nm ∧ MOk rs mr ∧ Dp K Z rowv mr.d ∧ But a Y Z ∧ Z a = some (.lst b9) ∧ BoxL (m + 401 + 705 * j + 5) b9, ?_, ?_⟩
        · refine ⟨_, rfl, _, rfl, _, rfl, ((sz : Nat) : Int), rfl, by omega, by omega, fun D nD => ?_⟩
          have nDa : D ≠ a := fun z => by
            rw [z, hb8] at nD
            cases nD
          refine lc_range (lo := 0) (n := Int.toNat ((sz : Nat) : Int)) (fun i U => But a Y8 U ∧ ∃ (pt : List (List Nat)) (b9 : List V), U D = some (.lst (nmV pt)) ∧ pt.length = i ∧ (∀ k ∈ pt, ∃ r ∈ rs, r.nm = k) ∧ U a = some (.lst b9) ∧ BoxL (m + 401 + 705 * j + 3 + i) b9) ⟨But.of (same_upd nD), [], b8, upd_same, rfl, (fun k h => nomatch h), same_upd nD _ _ hb8, hB8⟩ ?_ ?_
          · rintro i U hi ⟨bU, pt, b9, hD, hpl, hpt, hb9, hB9⟩
            have hi2 : i < 2 := by
              rw [Int.toNat_natCast] at hi
              omega
            have btU := bt8.trans bU
            refine ⟨rfl, yesT ?_⟩
            refine ⟨_, rfl, _, rfl, a, ls, _, b9, sv, rfl, hb9, hB9, by omega, SqL.of (btU _ _ gsY.n1 hls), gsY.n1, by omega, by omega, fun i2 v2 b10 hv2 hB10 => ?_⟩
            have btV : But a Y (upd U a (.lst b10)) := btU.trans (But.upd (But.refl a U))
            obtain ⟨r2, q2, w1', w2', hr2, rfl, hq2⟩ := kindOf btV hv2
            refine ⟨q2, _, 0, .str (SX.S r2.nm), rfl, rfl, hq2, atI_nat (j := 0) rfl, nmV pt, by rw [upd_ne nDa]; exact hD, small1000 (by rw [nmV_len]; omega), fun c o nc hc => ?_, pt ++ [r2.nm], b10, ?_, by rw [List.length_append]; show pt.length + 1 = i + 1; omega, fun k hk => ?_, ?_, hB10.mono (by omega)⟩
            · rw [upd_ne (ne_of_none hc nD), upd_ne nc]
              exact bU c o nc hc
            · unfold nmV
              rw [List.map_append]
              exact upd_same
            · rcases List.mem_append.mp hk with h | h
              · exact hpt k h
              · rw [List.mem_singleton.mp h]
                exact ⟨r2, hr2, rfl⟩
            · rw [upd_ne nDa.symm]
              exact upd_same
          · rintro U ⟨bU, pt, b9, hD, hpl, hpt, hb9, hB9⟩
            rw [Int.toNat_natCast] at hpl hB9
            refine ⟨D, nmV pt, rfl, .inl ⟨SqL.of hD, fun l1 n1 => ?_⟩⟩
            have s1 := same_upd (o := .tup (nmV pt)) n1
            refine ⟨by show 3 ≤ sizeLine; decide, fun l2 n2 => ?_⟩
            have s2 := same_upd (o := .tup [.str (SX.S nm), .str (SX.S k), .ref l1]) n2
            refine ⟨⟨nm, k, pt⟩, .ref l2, b9, _, rfl, rfl, ⟨hws nm (List.mem_of_getElem? hnm), fun k' hk' => ?_, by show pt.length ≤ 2; omega⟩, ?_, (bt8.trans bU).trans (But.of (s1.trans s2)), (s1.trans s2) _ _ hb9, hB9.mono (by omega)⟩
            · rcases List.mem_cons.mp hk' with rfl | h
              · exact hk
              · exact hpt k' h
            · exact .tup (SqT.of upd_same) (.cons (.str _) (.cons (.str _) (.cons (dp_same s2 (.tup (SqT.of upd_same) (nm_dp pt))) .nil)))
        clear hb8 hB8 bt8
        rintro σ Y9 ⟨mr, rowv, b9, z11, rfl, hmn, hmok, hrow, bt9, hb9, hB9⟩
        have gs9 := gsY.go hbY bt9
        have ph9 := phY.go hbY bt9
        obtain ⟨mv, hlm, hmv⟩ := gs9.hlm
        have lmv := dpAll_len hmv
        rw [List.length_map] at lmv
        have lms : ms.length = j := by
          have := congrArg List.length hms
          rw [List.length_map, List.length_take] at this
          omega
        -- one making more
        refine ⟨fun σ Z => ∃ (lm' : Addr) (kvs' : List (Key × V)) (b9 : List V), σ = [some (.ref a), some (.int (roof : Nat)), some wv, some (.ref ls), some (.ref gd), some (.ref ph), some (.int ((j : Nat) : Int)), some (.str (SX.S nm)), some (.str (SX.S k)), some (.int (sz : Nat)), some rowv, z11] ∧ Gs K H Z a gd ls lm' lr of rs (ms ++ [mr]) ru roof kvs' ∧ kvs'.length ≤ 5 + 2 * j + 1 ∧ Ph Z a ph rs phs ∧ Dp K Z rowv mr.d ∧ Z ln = some (.lst (nmV ws)) ∧ Z a = some (.lst b9) ∧ BoxL (m + 401 + 705 * j + 5) b9, ?_, ?_⟩
        · refine ⟨_, rfl, gd, .ref lm, rfl, by have h := DGet.k (k := Sum.inr "makings") gs9.hgd; rw [gs9.mak] at h; exact h, _, rfl, by show 1 ≤ sizeLine; decide, fun l1 n1 => ?_⟩
          have s1 := same_upd (o := .lst [rowv]) n1
          refine ⟨lm, l1, mv, [rowv], rfl, rfl, s1 _ _ hlm, upd_same, Nat.le_trans (show _ ≤ 100 from by show mv.length + 1 ≤ 100; omega) (by decide), fun l2 n2 => ?_⟩
          have s2 := same_upd (o := .lst (mv ++ [rowv])) n2
          have s12 := s1.trans s2
          have gsA := gs9.go hb9 (But.of s12)
          have phA := ph9.go hb9 (But.of s12)
          have n2a : l2 ≠ a := fun z => by
            rw [z, s1 _ _ hb9] at n2
            cases n2
          have hrowA := dp_same s12 hrow
          have hl2 : (upd (upd Y9 l1 (.lst [rowv])) l2 (.lst (mv ++ [rowv]))) l2 = some (.lst (mv ++ [rowv])) := upd_same
          have hdA := dpAll_appI (dpAll_same s12 hmv) (.cons hrowA .nil)
          have hlnA := s12 _ _ (bt9 _ _ nla hlnY)
          have hbA := s12 _ _ hb9
          obtain ⟨YA, eA⟩ : ∃ YA, YA = upd (upd Y9 l1 (.lst [rowv])) l2 (.lst (mv ++ [rowv])) := ⟨_, rfl⟩
          rw [← eA] at gsA phA hrowA hl2 hdA hlnA hbA ⊢
          refine ⟨_, rfl, gd, _, rfl, DPut.k (k := Sum.inr "makings") gsA.hgd (small1000 (by omega)), l2, _, b9, rfl, gsA.set (kvs' := putK kvs (Sum.inr "makings") (.ref l2)) (ms' := ms ++ [mr]) (ru' := ru) ⟨mv ++ [rowv], hl2, by rw [List.map_append]; exact hdA⟩ n2a gsA.hlr gsA.n3 ?_ ?_ ?_ ?_ ?_, ?_, phA.set gsA.hgd npg, dp_imm (KeepT.at_ gsA.hgd dK_no) hrowA mr.imm, ?_, ?_, hB9⟩
          · rw [valV_put, if_neg (by decide +kernel)]; exact gsA.cap
          · rw [valV_put, if_neg (by decide +kernel)]; exact gsA.so
          · rw [valV_put, if_pos rfl]
          · rw [valV_put, if_neg (by decide +kernel)]; exact gsA.rl
          · rw [valV_put, if_neg (by decide +kernel)]; exact gsA.ofv
          · have := length_putK kvs (Sum.inr "makings") (.ref l2)
            omega
          · rw [upd_ne nlg]; exact hlnA
          · rw [upd_ne (fun z => by rw [z, gsA.hgd] at hbA; cases hbA)]; exact hbA
        clear hrow ph9 hlm hmv lmv gs9 hb9 hB9
        rintro σ Z ⟨lm', kvs', b9, rfl, gsZ, klZ, phZ, hrow, hlnZ, hbZ, hBZ⟩
        obtain ⟨rv, hlrZ, hrvZ⟩ := gsZ.hlr
        have lrv := dpAll_len hrvZ
        rw [List.length_map] at lrv
        obtain ⟨ofk, of1, _, of2⟩ := gsZ.hof
        have cxt : Cxt K Z a gd ph rowv wv rs mr roof wb wn phs := ⟨⟨kvs', of, ofk, gsZ.hgd, gsZ.cap, gsZ.ofv, of1, of2⟩, phZ, hrow, dp_imm (KeepT.but ha gsZ.bt) hwv rfl, w0, w1, hrs, hmok.so, hmok.p2, hroof⟩
        refine ⟨_, rfl, gd, .ref lr, rfl, by have h := DGet.k (k := Sum.inr "rules") gsZ.hgd; rw [gsZ.rl] at h; exact h, ?_⟩
        refine ⟨_, rfl, _, rfl, _, rfl, _, rfl, _, rfl, a, gd, ph, rowv, wv, rs, mr, roof, wb, wn, phs, _, b9, rfl, cxt, hbZ, hBZ, by omega, fun V lv vs' ru' ks b10 btV nlv hlv hru' hok hb10 hB10 => ?_⟩
        have gsV := gsZ.go hbZ btV
        have phV := phZ.go hbZ btV
        have hlrV := btV _ _ gsZ.n3 hlrZ
        have lru := hok.le
        have lvs := dpAll_len hru'
        rw [List.length_map] at lvs
        refine ⟨lr, lv, rv, vs', rfl, rfl, hlrV, hlv, Nat.le_trans (show _ ≤ 1000 by omega) (by decide), fun l3 n3 => ?_⟩
        have s3 := same_upd (o := .lst (rv ++ vs')) n3
        have gsA := gsV.go hb10 (But.of s3)
        have phA := phV.go hb10 (But.of s3)
        have n3a : l3 ≠ a := fun z => by
          rw [z, hb10] at n3
          cases n3
        have hdA := dpAll_appI (dpAll_imm ((KeepT.but hbZ btV).trans (KeepT.of s3)) hrvZ (immAll_map RRow.imm ru)) (dpAll_same s3 hru')
        have hl3 : (upd V l3 (.lst (rv ++ vs'))) l3 = some (.lst (rv ++ vs')) := upd_same
        have hlnA := s3 _ _ (btV _ _ nla hlnZ)
        have hbA := s3 _ _ hb10
        obtain ⟨YA, eA⟩ : ∃ YA, YA = upd V l3 (.lst (rv ++ vs')) := ⟨_, rfl⟩
        rw [← eA] at gsA phA hdA hl3 hlnA hbA ⊢
        refine ⟨_, rfl, gd, _, rfl, DPut.k (k := Sum.inr "rules") gsA.hgd (small1000 (by omega)), _, _, _, _, _, _, lm', l3, ms ++ [mr], ru ++ ru', _, b10, rfl, gsA.set (kvs' := putK kvs' (Sum.inr "rules") (.ref l3)) (ms' := ms ++ [mr]) (ru' := ru ++ ru') gsA.hlm gsA.n2 ⟨rv ++ vs', hl3, by rw [List.map_append]; exact hdA⟩ n3a ?_ ?_ ?_ ?_ ?_, ?_, phA.set gsA.hgd npg, ?_, fun m' hm' => ?_, .snoc hru hok, ?_, ?_, hB10.mono (by omega), ?_⟩
        · rw [valV_put, if_neg (by decide +kernel)]; exact gsA.cap
        · rw [valV_put, if_neg (by decide +kernel)]; exact gsA.so
        · rw [valV_put, if_neg (by decide +kernel)]; exact gsA.mak
        · rw [valV_put, if_pos rfl]
        · rw [valV_put, if_neg (by decide +kernel)]; exact gsA.ofv
        · have := length_putK kvs' (Sum.inr "rules") (.ref l3)
          omega
        · rw [List.map_append, hms, List.take_add_one, hnm]
          show _ ++ [mr.nm] = _ ++ [nm]
          rw [hmn]
        · rcases List.mem_append.mp hm' with h | h
          · exact hmo m' h
          · rw [List.mem_singleton.mp h]
            exact hmok
        · rw [List.length_append]
          omega
        · rw [upd_ne (fun z => by rw [z, gsA.hgd] at hbA; cases hbA)]; exact hbA
        · rw [upd_ne nlg]; exact hlnA
      · rintro σ Y ⟨y6, y7, y8, y9, y10, y11, lm, lr, ms, ru, kvs, b5, rfl, gs0, kl0, ph0, hms, hmo, hru, hrul, hb0, hB5, hlnY0⟩
        rw [nmV_len] at hms kl0 hrul hB5
        rw [List.take_length] at hms
        have lms := congrArg List.length hms
        rw [List.length_map] at lms
        exact ⟨_, _, _, _, _, _, lm, lr, ms, ru, kvs, b5, rfl, gs0, by omega, by rw [hms]; exact hwn, hmo, by omega, by omega, hru, by omega, hb0, hB5.mono (by omega)⟩
    rintro σ X5 ⟨y6, y7, y8, y9, y10, y11, lm5, lr5, ms, ru, kvs5, b5, rfl, gs5, kl5, hmn, hmo, hm8, hm1, hru, hrul, hb5, hB5⟩
    have ndm : ((ms.map mT).map fun t => kS t.k).Nodup := by
      rw [show ((ms.map mT).map fun t => kS t.k) = (ms.map MRow.nm).map kS by rw [List.map_map, List.map_map]; rfl]
      exact List.pairwise_map.mpr (hmn.imp fun h z => h (kS_inj z))
    -- by their names
    refine ⟨fun σ Y => ∃ (kvs : List (Key × V)) (by_ : Addr) (byk : List (Key × V)), σ = [some (.ref a), some (.int (roof : Nat)), some wv, some (.ref ls), some (.ref gd), some (.ref ph), y6, y7, y8, y9, y10, y11] ∧ Gs K H Y a gd ls lm5 lr5 of rs ms ru roof kvs ∧ kvs.length ≤ 31 ∧ valV kvs (Sum.inr "by") = some (.ref by_) ∧ by_ ≠ gd ∧ Y by_ = some (.dK byk) ∧ byk.map (·.1) = ms.map (fun m => kS m.nm) ∧ (∀ m ∈ ms, ∃ v, valV byk (kS m.nm) = some v ∧ Dp K Y v (.tuple [strD m.so, .tuple (m.pt.map strD)])) ∧ Y a = some (.lst b5), ?_, ?_⟩
    · obtain ⟨mv, hlm, hmv⟩ := gs5.hlm
      refine ⟨_, rfl, gd, .ref lm5, rfl, by have h := DGet.k (k := Sum.inr "makings") gs5.hgd; rw [gs5.mak] at h; exact h, lm5, rfl, ⟨_, SqL.of hlm⟩, fun D nD => ?_⟩
      refine lc_of (ts := ms.map mT) hlm (by rw [← mT_d]; exact hmv) (fun t ht => ?_) (by rw [List.length_map]; omega) nD fun U ps sU hD hp => ?_
      · obtain ⟨r, _, rfl⟩ := List.mem_map.mp ht
        exact m_imm r
      obtain ⟨kvs, k1, k2, k3⟩ := hp.kvs
      refine ⟨D, ps, kvs, rfl, SqL.of hD, k1, fun by_ nby => ?_⟩
      have g3 := same_upd (o := .dK (mergeK [] kvs)) nby
      have sA := sU.trans g3
      have gsA := gs5.go hb5 (But.of sA)
      have hbA := sA _ _ hb5
      have hby : (upd U by_ (.dK (mergeK [] kvs))) by_ = some (.dK (mergeK [] kvs)) := upd_same
      have nbg : by_ ≠ gd := fun z => by
        rw [z, sU _ _ gs5.hgd] at nby
        cases nby
      have hbv : ∀ m ∈ ms, ∃ v, valV (mergeK [] kvs) (kS m.nm) = some v ∧ Dp K (upd U by_ (.dK (mergeK [] kvs))) v (.tuple [strD m.so, .tuple (m.pt.map strD)]) := fun m hm => by
        obtain ⟨v, h1, h2⟩ := k3 (mT m) (List.mem_map_of_mem hm)
        exact ⟨v, merge_in kvs [] (by rw [k2]; exact ndm) _ h1, dp_same g3 h2⟩
      obtain ⟨YA, eA⟩ : ∃ YA, YA = upd U by_ (.dK (mergeK [] kvs)) := ⟨_, rfl⟩
      rw [← eA] at gsA hbA hby hbv ⊢
      refine ⟨_, rfl, gd, _, rfl, DPut.k (k := Sum.inr "by") gsA.hgd (small1000 (by omega)), _, by_, mergeK [] kvs, rfl, gsA.set (kvs' := putK kvs5 (Sum.inr "by") (.ref by_)) (ms' := ms) (ru' := ru) gsA.hlm gsA.n2 gsA.hlr gsA.n3 ?_ ?_ ?_ ?_ ?_, ?_, ?_, nbg, ?_, (merge_keys kvs [] (by show (kvs.map (·.1)).Nodup; rw [k2]; exact ndm)).trans (by show kvs.map (·.1) = _; rw [k2, List.map_map]; rfl), fun m hm => ?_, ?_⟩
      · rw [valV_put, if_neg (by decide +kernel)]; exact gsA.cap
      · rw [valV_put, if_neg (by decide +kernel)]; exact gsA.so
      · rw [valV_put, if_neg (by decide +kernel)]; exact gsA.mak
      · rw [valV_put, if_neg (by decide +kernel)]; exact gsA.rl
      · rw [valV_put, if_neg (by decide +kernel)]; exact gsA.ofv
      · have := length_putK kvs5 (Sum.inr "by") (.ref by_)
        omega
      · rw [valV_put, if_pos rfl]
      · rw [upd_ne nbg]; exact hby
      · obtain ⟨v, h1, h2⟩ := hbv m hm
        exact ⟨v, h1, dp_imm (KeepT.at_ gsA.hgd dK_no) h2 (m_imm m)⟩
      · rw [upd_ne (fun z => by rw [z, gsA.hgd] at hbA; cases hbA)]; exact hbA
    rintro σ X6 ⟨kvs6, by_, byk, rfl, gs6, kl6, hbyv, nbg, hby, hbks, hbv, hb6⟩
    -- by their targets: not followed
    obtain ⟨rv, hlr, hrv⟩ := gs6.hlr
    have lrv := dpAll_len hrv
    rw [List.length_map] at lrv
    refine ⟨_, rfl, gd, .ref lr5, rfl, by have h := DGet.k (k := Sum.inr "rules") gs6.hgd; rw [gs6.rl] at h; exact h, lr5, rfl, ⟨_, SqL.of hlr⟩, fun D nD => ?_⟩
    refine lc_list (K := K) (a := lr5) (xs := rv) (fun j U => Same X6 U ∧ ∃ (ps : List Addr) (ks : List (Addr × PyData × V)), U D = some (.lst (ps.map V.ref)) ∧ Paired (fun p k => SqT K U p [.ref k.1, k.2.2] ∧ Dp K U (.ref k.1) k.2.1 ∧ imm k.2.1 = true ∧ (keyD k.2.1).depth ≤ 8) ps ks ∧ ps.length = j) ⟨same_upd nD, [], [], upd_same, .nil, rfl⟩ (fun j U _ h => SqL.of (h.1 _ _ hlr)) ?_ ?_
    · rintro j x U hx ⟨sU, ps, ks, hD, hp, hpl⟩
      obtain ⟨dd, hdd, hxd⟩ := dpAll_at hrv hx
      rw [List.getElem?_map] at hdd
      obtain ⟨r, hr, rfl⟩ : ∃ r, ru[j]? = some r ∧ dd = r.d := by
        cases h : ru[j]? with
        | none => rw [h] at hdd; cases hdd
        | some e => rw [h] at hdd; exact ⟨e, rfl, (Option.some.inj hdd).symm⟩
      have hj : j < ru.length := (List.getElem?_eq_some_iff.mp hr).1
      obtain ⟨q0, v2, v4, rfl, hq, h2⟩ := rr_at (dp_same sU hxd)
      refine ⟨rfl, yesT ?_⟩
      refine ⟨_, rfl, 2, rfl, q0, _, rfl, hq, fun U1 t1 s1 ht1 => ?_⟩
      have ht1 : SqT K U1 t1 [.str (SX.S r.ma), v2] := ht1
      refine ⟨_, rfl, 2, rfl, q0, _, rfl, Same.seqT s1 hq, fun U2 t2 s2 ht2 => ?_⟩
      refine ⟨by show 2 ≤ sizeLine; decide, fun p3 n3 => ?_⟩
      have s3 := same_upd (o := .tup [.ref t1, .ref t2]) n3
      have sA := s1.trans (s2.trans s3)
      have hD3 := sA _ _ hD
      have dk : Dp K U1 (.ref t1) (.tuple [strD r.ma, r.tg.d]) := .tup ht1 (.cons (.str _) (.cons (dp_same s1 h2) .nil))
      have ik : imm (.tuple [strD r.ma, r.tg.d]) = true := by
        show (true && (imm r.tg.d && true)) = true
        rw [r.tg.imm]
        rfl
      have kk : KeepT (upd U2 p3 (.tup [.ref t1, .ref t2])) (upd (upd U2 p3 (.tup [.ref t1, .ref t2])) D (.lst (ps.map V.ref ++ [.ref p3]))) := KeepT.at_ hD3 lst_no
      refine ⟨_, hD3, small1000 (by rw [List.length_map]; omega), Same.at_ (sU.trans sA) nD, ps ++ [p3], ks ++ [(t1, .tuple [strD r.ma, r.tg.d], .ref t2)], ?_, paired_snoc (paired_mono (fun p k h => ?_) hp) ⟨kk.seqT (SqT.of upd_same), dp_imm ((KeepT.of (s2.trans s3)).trans kk) dk ik, ik, key_depth _ _⟩, by rw [List.length_append]; show ps.length + 1 = j + 1; omega⟩
      · rw [List.map_append]
        exact upd_same
      · obtain ⟨q1, q2, q3, q4⟩ := h
        exact ⟨((KeepT.of sA).trans kk).seqT q1, dp_imm ((KeepT.of sA).trans kk) q2 q3, q3, q4⟩
    · rintro U ⟨sU, ps, ks, hD, hp, hpl⟩
      refine ⟨D, ps, ks, rfl, SqL.of hD, hp, fun pz npz => ?_⟩
      have gsU := gs6.go hb6 (But.of sU)
      have hbU := sU _ _ hb6
      have gsF := gsU.set (kvs' := putK kvs6 (Sum.inr "has") (.ref pz)) (ms' := ms) (ru' := ru) gsU.hlm gsU.n2 gsU.hlr gsU.n3 (by rw [valV_put, if_neg (by decide +kernel)]; exact gsU.cap) (by rw [valV_put, if_neg (by decide +kernel)]; exact gsU.so) (by rw [valV_put, if_neg (by decide +kernel)]; exact gsU.mak) (by rw [valV_put, if_neg (by decide +kernel)]; exact gsU.rl) (by rw [valV_put, if_neg (by decide +kernel)]; exact gsU.ofv)
      refine ⟨_, rfl, gd, _, rfl, DPut.k (k := Sum.inr "has") gsU.hgd (small1000 (by omega)), _, rfl, q _ gd rs ms ru b5 gsF.bt gsF.nH ⟨ls, lm5, lr5, of, _, gsF.any, by_, byk, ?_, nbg, ?_, hbks, fun m hm => ?_⟩ ⟨hrs, rs1, hmn, hmo, hm8, hm1, hru, hroof⟩ ?_ (hB5.mono (by omega))⟩
      · rw [valV_put, if_neg (by decide +kernel)]; exact hbyv
      · rw [upd_ne nbg]; exact sU _ _ hby
      · obtain ⟨v, h1, h2⟩ := hbv m hm
        exact ⟨v, h1, dp_imm ((KeepT.of sU).trans (KeepT.at_ gsU.hgd dK_no)) h2 (m_imm m)⟩
      · rw [upd_ne (fun z => by rw [z, gsU.hgd] at hbU; cases hbU)]; exact hbU
end
abbrev s__law_any : Stmt := top 63
abbrev N__law_any : List Str := ["_law_box", "_law_roof"]
abbrev P__law_any : List Str := ["_law_box"]
theorem sc__law_any : FnScope N__law_any P__law_any (defScope s__law_any) := ⟨rfl, rfl, rfl, by decide +kernel, rfl, by decide +kernel, by decide +kernel⟩
def spAny (K : PySem.W.Frag) : Sp := fun vs H Q _ => ∃ (a : Addr) (m : Nat) (b : List V), vs = [.ref a] ∧ H a = some (.lst b) ∧ BoxL m b ∧ m + 8010 < 900000 ∧
  ∀ (H' : Hp) (gd : Addr) (rs : List SRow) (ms : List MRow) (ru : List RRow) (roof : Nat) (b' : List V), But a H H' → H gd = none → GramIn K H' a gd rs ms ru roof → GramOk rs ms ru roof → H' a = some (.lst b') → BoxL (m + 8010) b' → Q (.ref gd) H'
section
variable {P : Program} {w : World} {K : PySem.W.Frag} {mg : Str → Option Value} {base : Heap}
theorem ok_any (c_law_take : C8.Cal P w K mg base 1 "_law_take" spTake []) (c_law_drawn : C8.Cal P w K mg base 4 "_law_drawn" (spDrawn K) [])
    (D : Dd K mg "_law_any" s__law_any P__law_any) : C8.Cal P w K mg base 5 "_law_any" (spAny K) [] := by
  refine D.cal sc__law_any (fun vs H Q E h => ?_) (fun f cdv A outer s H vs Q E hr h => ?_)
  · obtain ⟨a, m, b, rfl, _⟩ := h
    rfl
  · obtain ⟨a, m, b, rfl, ha, hB, hm, q⟩ := h
    refine ⟨_, (pss_cons (ps_set (i := 1) sc__law_any.nd rfl (Or.inl rfl) (pe_ix ix_list (pe_lst (pa_cons pe_int (pa_cons pe_int (pa_cons (pe_op op_add pe_int (C8.pe_c c_law_take hr (by decide) (by rfl) (pa_cons (pv 0) (pa_cons pe_int pa_nil)))) pa_nil)))) (C8.pe_c c_law_take hr (by decide) (by rfl) (pa_cons (pv 0) (pa_cons pe_int pa_nil))) (fun _ _ => rfl)))
        (pss_one (ps_ret (C8.pe_c c_law_drawn hr (by decide) (by rfl) (pa_cons (pv 0) (pa_cons (pv 1) (pa_cons (pe_tup (pa_cons (pe_cmpR op_eq (C8.pe_c c_law_take hr (by decide) (by rfl) (pa_cons (pv 0) (pa_cons pe_int pa_nil))) pe_int (nomark _)) (pa_cons (pe_ix ix_list (pe_lst (pa_cons pe_int (pa_cons pe_int (pa_cons pe_int pa_nil)))) (C8.pe_c c_law_take hr (by decide) (by rfl) (pa_cons (pv 0) (pa_cons pe_int pa_nil))) (fun _ _ => rfl)) pa_nil))) pa_nil))))))), ?_⟩
    refine ⟨_, rfl, a, 9, _, b, rfl, ha, hB, by omega, by decide, by decide, fun r1 b1 r10 r11 hB1 => ?_⟩
    refine ⟨_, _, rfl, rfl, by show 3 ≤ sizeLine; decide, fun l1 n1 => ?_⟩
    obtain ⟨n9, rfl⟩ := Int.eq_ofNat_of_zero_le r10
    have hb1 : (upd H a (.lst b1)) a = some (.lst b1) := upd_same
    have bt1 : But a H (upd H a (.lst b1)) := But.upd (But.refl a H)
    have s1 := same_upd (o := .lst [.int 0, .int 0, .int (1 + ((n9 : Nat) : Int))]) n1
    have n1a : l1 ≠ a := fun z => by
      rw [z, hb1] at n1
      cases n1
    refine ⟨_, rfl, a, 3, _, b1, rfl, s1 _ _ hb1, hB1, by omega, by decide, by decide, fun r2 b2 r20 r21 hB2 => ?_⟩
    obtain ⟨n2, rfl⟩ := Int.eq_ofNat_of_zero_le r20
    have bt2 : But a H (upd (upd (upd H a (.lst b1)) l1 (.lst [.int 0, .int 0, .int (1 + ((n9 : Nat) : Int))])) a (.lst b2)) := (bt1.trans (But.of s1)).trans (But.upd (But.refl a _))
    have hb2 : (upd (upd (upd H a (.lst b1)) l1 (.lst [.int 0, .int 0, .int (1 + ((n9 : Nat) : Int))])) a (.lst b2)) a = some (.lst b2) := upd_same
    have hl2 : (upd (upd (upd H a (.lst b1)) l1 (.lst [.int 0, .int 0, .int (1 + ((n9 : Nat) : Int))])) a (.lst b2)) l1 = some (.lst [.int 0, .int 0, .int (1 + ((n9 : Nat) : Int))]) := by
      rw [upd_ne n1a]
      exact upd_same
    obtain ⟨X2, e2⟩ : ∃ X2, X2 = upd (upd (upd H a (.lst b1)) l1 (.lst [.int 0, .int 0, .int (1 + ((n9 : Nat) : Int))])) a (.lst b2) := ⟨_, rfl⟩
    rw [← e2] at bt2 hb2 hl2 ⊢
    obtain ⟨roof, hat, hroof⟩ : ∃ roof : Nat, atI [V.int 0, V.int 0, V.int (1 + ((n9 : Nat) : Int))] ((n2 : Nat) : Int) = some (.int (roof : Nat)) ∧ roof ≤ 9 := by
      rcases n2 with _ | _ | _ | n2
      · exact ⟨0, atI_nat (j := 0) rfl, by decide⟩
      · exact ⟨0, atI_nat (j := 1) rfl, by decide⟩
      · exact ⟨1 + n9, atI_nat (j := 2) rfl, by omega⟩
      · omega
    refine ⟨l1, _, _, _, rfl, rfl, SqL.of hl2, hat, ?_⟩
    refine ⟨_, rfl, _, rfl, _, rfl, a, 3, _, b2, rfl, hb2, hB2, by omega, by decide, by decide, fun r3 b3 r30 r31 hB3 => ?_⟩
    refine ⟨rfl, by show 3 ≤ sizeLine; decide, fun l3 n3 => ?_⟩
    have hb3 : (upd X2 a (.lst b3)) a = some (.lst b3) := upd_same
    have s3 := same_upd (o := .lst [.int 1000, .int 1000, .int 12]) n3
    have n3a : l3 ≠ a := fun z => by
      rw [z, hb3] at n3
      cases n3
    refine ⟨_, rfl, a, 3, _, b3, rfl, s3 _ _ hb3, hB3, by omega, by decide, by decide, fun r4 b4 r40 r41 hB4 => ?_⟩
    obtain ⟨n4, rfl⟩ := Int.eq_ofNat_of_zero_le r40
    have bt4 : But a H (upd (upd (upd X2 a (.lst b3)) l3 (.lst [.int 1000, .int 1000, .int 12])) a (.lst b4)) := ((bt2.trans (But.upd (But.refl a _))).trans (But.of s3)).trans (But.upd (But.refl a _))
    have hb4 : (upd (upd (upd X2 a (.lst b3)) l3 (.lst [.int 1000, .int 1000, .int 12])) a (.lst b4)) a = some (.lst b4) := upd_same
    have hl4 : (upd (upd (upd X2 a (.lst b3)) l3 (.lst [.int 1000, .int 1000, .int 12])) a (.lst b4)) l3 = some (.lst [.int 1000, .int 1000, .int 12]) := by
      rw [upd_ne n3a]
      exact upd_same
    obtain ⟨X4, e4⟩ : ∃ X4, X4 = upd (upd (upd X2 a (.lst b3)) l3 (.lst [.int 1000, .int 1000, .int 12])) a (.lst b4) := ⟨_, rfl⟩
    rw [← e4] at bt4 hb4 hl4 ⊢
    obtain ⟨wn, hat4, w0, w1⟩ : ∃ wn : Nat, atI [V.int 1000, V.int 1000, V.int 12] ((n4 : Nat) : Int) = some (.int (wn : Nat)) ∧ 0 < wn ∧ wn < 1000000 := by
      rcases n4 with _ | _ | _ | n4
      · exact ⟨1000, atI_nat (j := 0) rfl, by decide, by decide⟩
      · exact ⟨1000, atI_nat (j := 1) rfl, by decide, by decide⟩
      · exact ⟨12, atI_nat (j := 2) rfl, by decide, by decide⟩
      · omega
    refine ⟨l3, _, _, _, rfl, rfl, SqL.of hl4, hat4, by show 2 ≤ sizeLine; decide, fun t5 n5 => ?_⟩
    have s5 := same_upd (o := .tup [.bl (decide (V.int r3 = V.int 0)), .int (wn : Nat)]) n5
    exact ⟨a, roof, _, _, _, wn, b4, rfl, .tup (SqT.of upd_same) (.cons (.bl _) (.cons (.int _) .nil)), w0, w1, hroof, s5 _ _ hb4, hB4, by omega, fun H' gd rs ms ru b' bt ng gi go hb' hB' => q H' gd rs ms ru roof b' ((bt4.trans (But.of s5)).trans bt) (But.free (bt4.trans (But.of s5)) (s5 _ _ hb4) ng) gi go hb' (hB'.mono (by omega))⟩
end
/-! ### the least sizes of sorts -/
mutual
inductive Der (rows : List MRow) : List Nat → Nat → Prop
  | mk {mr : MRow} {ns : List Nat} : mr ∈ rows → DerAll rows mr.pt ns → Der rows mr.so (1 + ns.sum)
inductive DerAll (rows : List MRow) : List (List Nat) → List Nat → Prop
  | nil : DerAll rows [] []
  | cons {k : List Nat} {n : Nat} {ks : List (List Nat)} {ns : List Nat} : Der rows k n → DerAll rows ks ns → DerAll rows (k :: ks) (n :: ns)
end
def IsD (rows : List MRow) (k : List Nat) (n : Nat) : Prop := Der rows k n ∧ ∀ m, Der rows k m → n ≤ m
theorem least_of {p : Nat → Prop} : ∀ n, p n → ∃ m, p m ∧ (∀ j, p j → m ≤ j) ∧ m ≤ n := by
  intro n
  induction n using Nat.strongRecOn with
  | _ n ih =>
    intro hn
    by_cases h : ∃ j, j < n ∧ p j
    · obtain ⟨j, hj, pj⟩ := h
      obtain ⟨m, h1, h2, h3⟩ := ih j hj pj
      exact ⟨m, h1, h2, by omega⟩
    · exact ⟨n, hn, fun j pj => Nat.not_lt.mp fun z => h ⟨j, z, pj⟩, Nat.le_refl _⟩
theorem isD_of {rows : List MRow} {k : List Nat} {n : Nat} (h : Der rows k n) : ∃ m, IsD rows k m ∧ m ≤ n := by
  obtain ⟨m, h1, h2, h3⟩ := least_of n h
  exact ⟨m, ⟨h1, h2⟩, h3⟩
inductive DAll (rows : List MRow) : List (List Nat) → List Nat → Prop
  | nil : DAll rows [] []
  | cons {k : List Nat} {n : Nat} {ks : List (List Nat)} {ns : List Nat} : IsD rows k n → DAll rows ks ns → DAll rows (k :: ks) (n :: ns)
theorem dAll_of {rows : List MRow} : ∀ {ks : List (List Nat)} {ns : List Nat}, DerAll rows ks ns → ∃ ms, DAll rows ks ms ∧ ms.sum ≤ ns.sum
  | _, _, .nil => ⟨[], .nil, Nat.le_refl _⟩
  | _, _, .cons h r => by
    obtain ⟨m, h1, h2⟩ := isD_of h
    obtain ⟨ms, h3, h4⟩ := dAll_of r
    refine ⟨m :: ms, .cons h1 h3, ?_⟩
    rw [List.sum_cons, List.sum_cons]
    omega
theorem dAll_der {rows : List MRow} : ∀ {ks : List (List Nat)} {ns : List Nat}, DAll rows ks ns → DerAll rows ks ns
  | _, _, .nil => .nil
  | _, _, .cons h r => .cons h.1 (dAll_der r)
theorem best_row {rows : List MRow} {k : List Nat} {n : Nat} (h : IsD rows k n) : ∃ mr ms, mr ∈ rows ∧ mr.so = k ∧ DAll rows mr.pt ms ∧ n = 1 + ms.sum := by
  obtain ⟨h1, h2⟩ := h
  cases h1 with
  | mk hm hd =>
    rename_i mr ns
    obtain ⟨ms, h3, h4⟩ := dAll_of hd
    have := h2 _ (.mk hm (dAll_der h3))
    exact ⟨mr, ms, hm, rfl, h3, by omega⟩
/-! how many sorts have a smaller tree -/
noncomputable def smaller (rows : List MRow) (n : Nat) (k : List Nat) : Bool := @decide (∃ m, m < n ∧ Der rows k m) (Classical.propDecidable _)
theorem smaller_iff {rows : List MRow} {n : Nat} {k : List Nat} : smaller rows n k = true ↔ ∃ m, m < n ∧ Der rows k m := by
  unfold smaller
  exact @decide_eq_true_iff _ (Classical.propDecidable _)
theorem smaller_not {rows : List MRow} {n : Nat} {k : List Nat} (h : IsD rows k n) : smaller rows n k = false := by
  cases e : smaller rows n k with
  | false => rfl
  | true =>
    obtain ⟨j, hj, hd⟩ := smaller_iff.mp e
    have := h.2 j hd
    omega
noncomputable def rank (rows : List MRow) (names : List (List Nat)) (n : Nat) : Nat := (names.filter (smaller rows n)).length
theorem filter_lt {α : Type} {p q : α → Bool} (h : ∀ x, p x = true → q x = true) : ∀ {l : List α} {x : α}, x ∈ l → q x = true → p x = false → (l.filter p).length < (l.filter q).length := by
  have le : ∀ l : List α, (l.filter p).length ≤ (l.filter q).length := fun l => by
    induction l with
    | nil => exact Nat.le_refl _
    | cons y l ih =>
      rw [List.filter_cons, List.filter_cons]
      cases hp : p y with
      | true =>
        rw [h y hp]
        exact Nat.succ_le_succ ih
      | false =>
        cases hq : q y with
        | true => exact Nat.le_succ_of_le ih
        | false => exact ih
  intro l
  induction l with
  | nil => exact fun h => nomatch h
  | cons y l ih =>
    intro x hx hq hp
    rw [List.filter_cons, List.filter_cons]
    rcases List.mem_cons.mp hx with rfl | hx
    · rw [hp, hq]
      exact Nat.lt_succ_of_le (le l)
    · have := ih hx hq hp
      cases hp' : p y with
      | true =>
        rw [h y hp']
        exact Nat.succ_lt_succ this
      | false =>
        cases hq' : q y with
        | true => exact Nat.lt_succ_of_lt this
        | false => exact this
theorem rank_lt {rows : List MRow} {names : List (List Nat)} {k : List Nat} {n m : Nat} (hk : k ∈ names) (hm : IsD rows k m) (h : m < n) : rank rows names m < rank rows names n := by
  unfold rank
  refine filter_lt (fun x hx => ?_) hk (smaller_iff.mpr ⟨m, h, hm.1⟩) (smaller_not hm)
  obtain ⟨j, hj, hd⟩ := smaller_iff.mp hx
  exact smaller_iff.mpr ⟨j, by omega, hd⟩
theorem rank_le {rows : List MRow} {names : List (List Nat)} {k : List Nat} {n : Nat} (hk : k ∈ names) (h : IsD rows k n) : rank rows names n < names.length := by
  have := filter_lt (l := names) (p := smaller rows n) (q := fun _ => true) (fun _ _ => rfl) hk rfl (smaller_not h)
  rw [show names.filter (fun _ => true) = names from List.filter_eq_self.mpr (fun _ _ => rfl)] at this
  exact this
/-! the sizes told so far -/
def allIn (S : List Nat → Option Nat) (pt : List (List Nat)) : Bool := pt.all fun p => (S p).isSome
def sumS (S : List Nat → Option Nat) (pt : List (List Nat)) : Nat := (pt.map fun p => (S p).getD 0).sum
def putS (S : List Nat → Option Nat) (k : List Nat) (n : Nat) : List Nat → Option Nat := fun j => if j = k then some n else S j
def stepS (S : List Nat → Option Nat) (mr : MRow) : List Nat → Option Nat :=
  if allIn S mr.pt = true then putS S mr.so (min (1 + sumS S mr.pt) ((S mr.so).getD (1 + sumS S mr.pt))) else S
def Sound (rows : List MRow) (S : List Nat → Option Nat) : Prop := ∀ k n, S k = some n → Der rows k n
theorem der_all {rows : List MRow} {S : List Nat → Option Nat} (hS : Sound rows S) : ∀ {pt : List (List Nat)}, allIn S pt = true → DerAll rows pt (pt.map fun p => (S p).getD 0)
  | [], _ => .nil
  | p :: pt, h => by
    obtain ⟨h1, h2⟩ := Bool.and_eq_true_iff.mp (show ((S p).isSome && allIn S pt) = true from h)
    cases e : S p with
    | none => rw [e] at h1; cases h1
    | some n =>
      rw [List.map_cons, e]
      exact .cons (hS p n e) (der_all hS h2)
theorem sound_step {rows : List MRow} {S : List Nat → Option Nat} (hS : Sound rows S) {mr : MRow} (hm : mr ∈ rows) : Sound rows (stepS S mr) := by
  intro k n h
  unfold stepS at h
  split at h
  · rename_i ha
    unfold putS at h
    split at h
    · rename_i hk
      subst hk
      cases h
      have d : Der rows mr.so (1 + sumS S mr.pt) := .mk hm (der_all hS ha)
      cases e : S mr.so with
      | none =>
        rw [Option.getD_none, Nat.min_self]
        exact d
      | some v =>
        rw [Option.getD_some]
        rcases Nat.le_total (1 + sumS S mr.pt) v with z | z
        · rw [Nat.min_eq_left z]; exact d
        · rw [Nat.min_eq_right z]; exact hS _ _ e
    · exact hS k n h
  · exact hS k n h
theorem step_le {S : List Nat → Option Nat} {mr : MRow} {k : List Nat} {n : Nat} (h : S k = some n) : ∃ m, stepS S mr k = some m ∧ m ≤ n := by
  unfold stepS
  split
  · unfold putS
    split
    · rename_i hk
      subst hk
      rw [h]
      exact ⟨_, rfl, Nat.min_le_right _ _⟩
    · exact ⟨n, h, Nat.le_refl _⟩
  · exact ⟨n, h, Nat.le_refl _⟩
theorem exact_step {rows : List MRow} {S : List Nat → Option Nat} (hS : Sound rows S) {mr : MRow} (hm : mr ∈ rows) {k : List Nat} {n : Nat} (hd : IsD rows k n) (h : S k = some n) : stepS S mr k = some n := by
  obtain ⟨m, h1, h2⟩ := step_le (mr := mr) h
  have := hd.2 m (sound_step hS hm k m h1)
  rw [h1, show m = n by omega]
theorem step_at {S : List Nat → Option Nat} {mr : MRow} (h : allIn S mr.pt = true) : stepS S mr mr.so = some (min (1 + sumS S mr.pt) ((S mr.so).getD (1 + sumS S mr.pt))) := by
  unfold stepS
  rw [if_pos h]
  unfold putS
  rw [if_pos rfl]
theorem sound_run {rows : List MRow} : ∀ (l : List MRow) {S : List Nat → Option Nat}, Sound rows S → (∀ r ∈ l, r ∈ rows) → Sound rows (l.foldl stepS S)
  | [], _, h, _ => h
  | r :: l, _, h, hl => sound_run l (sound_step h (hl r (List.mem_cons_self ..))) fun x hx => hl x (List.mem_cons_of_mem _ hx)
theorem exact_run {rows : List MRow} {k : List Nat} {n : Nat} (hd : IsD rows k n) : ∀ (l : List MRow) {S : List Nat → Option Nat}, Sound rows S → (∀ r ∈ l, r ∈ rows) → S k = some n → l.foldl stepS S k = some n
  | [], _, _, _, e => e
  | r :: l, _, h, hl, e => exact_run hd l (sound_step h (hl r (List.mem_cons_self ..))) (fun x hx => hl x (List.mem_cons_of_mem _ hx)) (exact_step h (hl r (List.mem_cons_self ..)) hd e)
theorem sum_exact {rows : List MRow} {S : List Nat → Option Nat} : ∀ {pt : List (List Nat)} {ms : List Nat}, DAll rows pt ms → (∀ p m, p ∈ pt → IsD rows p m → m ≤ ms.sum → S p = some m) → allIn S pt = true ∧ sumS S pt = ms.sum
  | _, _, .nil, _ => ⟨rfl, rfl⟩
  | _, _, .cons (k := k) (n := n) (ks := ks) (ns := ns) h r, f => by
    have e := f k n (List.mem_cons_self ..) h (by rw [List.sum_cons]; omega)
    obtain ⟨h1, h2⟩ := sum_exact (S := S) r fun p m hp hd hle => f p m (List.mem_cons_of_mem _ hp) hd (by rw [List.sum_cons]; omega)
    refine ⟨?_, ?_⟩
    · show ((S k).isSome && allIn S ks) = true
      rw [e, h1]
      rfl
    · unfold sumS at *
      rw [List.map_cons, List.sum_cons, List.sum_cons, h2, e]
      rfl
/-- one pass more -/
theorem pass_exact {rows : List MRow} {names : List (List Nat)} (hn : ∀ r ∈ rows, ∀ p ∈ r.pt, p ∈ names) {S : List Nat → Option Nat} {i : Nat} (hS : Sound rows S) (h : ∀ k n, IsD rows k n → rank rows names n < i → S k = some n) :
    ∀ k n, IsD rows k n → rank rows names n < i + 1 → rows.foldl stepS S k = some n := by
  intro k n hd hr
  obtain ⟨mr, ms, hm, rfl, ha, en⟩ := best_row hd
  obtain ⟨l1, l2, el⟩ := List.append_of_mem hm
  have m1 : ∀ r ∈ l1, r ∈ rows := fun r hr => by rw [el]; exact List.mem_append_left _ hr
  have m2 : ∀ r ∈ l2, r ∈ rows := fun r hr => by rw [el]; exact List.mem_append_right _ (List.mem_cons_of_mem _ hr)
  have S1 := sound_run l1 hS m1
  obtain ⟨q1, q2⟩ := sum_exact (S := l1.foldl stepS S) ha fun p m hp hdp hle => by
    have hpn := hn mr hm p hp
    have := rank_lt (rows := rows) (n := n) hpn hdp (by omega)
    exact exact_run hdp l1 hS m1 (h p m hdp (by omega))
  have ex : stepS (l1.foldl stepS S) mr mr.so = some n := by
    have s2 := sound_step S1 hm
    have e := step_at (mr := mr) q1
    have lb := hd.2 _ (s2 _ _ e)
    rw [e]
    rw [q2, ← en] at lb ⊢
    have := Nat.min_le_left n ((l1.foldl stepS S mr.so).getD n)
    congr 1
    omega
  rw [el, List.foldl_append, List.foldl_cons]
  exact exact_run hd l2 (sound_step S1 hm) m2 ex
theorem passes {rows : List MRow} {names : List (List Nat)} (hn : ∀ r ∈ rows, ∀ p ∈ r.pt, p ∈ names) : ∀ i, Sound rows ((List.replicate i rows).flatten.foldl stepS fun _ => none) ∧ ∀ k n, IsD rows k n → rank rows names n < i → (List.replicate i rows).flatten.foldl stepS (fun _ => none) k = some n
  | 0 => ⟨(fun k n h => nomatch h), fun k n _ h => nomatch h⟩
  | i + 1 => by
    obtain ⟨h1, h2⟩ := passes hn i
    have e : (List.replicate (i + 1) rows).flatten = (List.replicate i rows).flatten ++ rows := by
      rw [List.replicate_succ', List.flatten_append]
      simp
    rw [e, List.foldl_append]
    exact ⟨sound_run rows h1 fun r h => h, pass_exact hn h1 h2⟩
theorem sum_le {rows : List MRow} {c : Nat} : ∀ {pt : List (List Nat)} {ms : List Nat}, DAll rows pt ms → (∀ p m, p ∈ pt → IsD rows p m → m ≤ ms.sum → m ≤ c) → ms.sum ≤ pt.length * c
  | _, _, .nil, _ => by simp
  | _, _, .cons (k := k) (n := n) (ks := ks) (ns := ns) h r, f => by
    have e := f k n (List.mem_cons_self ..) h (by rw [List.sum_cons]; omega)
    have h2 := sum_le (c := c) r fun p m hp hd hle => f p m (List.mem_cons_of_mem _ hp) hd (by rw [List.sum_cons]; omega)
    rw [List.sum_cons, List.length_cons, Nat.add_mul]
    omega
theorem size_le {rows : List MRow} {names : List (List Nat)} (hn : ∀ r ∈ rows, ∀ p ∈ r.pt, p ∈ names) (h2 : ∀ r ∈ rows, r.pt.length ≤ 2) : ∀ (i : Nat) (k : List Nat) (n : Nat), IsD rows k n → rank rows names n < i → n + 1 ≤ 2 ^ i := by
  intro i
  induction i with
  | zero => exact fun k n _ h => nomatch h
  | succ i ih =>
    intro k n hd hr
    obtain ⟨mr, ms, hm, rfl, ha, en⟩ := best_row hd
    have := sum_le (c := 2 ^ i - 1) ha fun p m hp hdp hle => by
      have := rank_lt (rows := rows) (n := n) (hn mr hm p hp) hdp (by omega)
      have := ih p m hdp (by omega)
      omega
    have hl := h2 mr hm
    have hp : 0 < 2 ^ i := Nat.pow_pos (by decide)
    have : mr.pt.length * (2 ^ i - 1) ≤ 2 * (2 ^ i - 1) := Nat.mul_le_mul_right _ hl
    rw [Nat.pow_succ]
    omega
/-- four passes tell the least sizes of at most four sorts -/
structure SzOk (rows : List MRow) (S : List Nat → Option Nat) : Prop where
  some : ∀ k n, S k = some n → 1 ≤ n ∧ n ≤ 15 ∧ ∃ mr ∈ rows, mr.so = k ∧ allIn S mr.pt = true ∧ n = 1 + sumS S mr.pt
theorem four_passes {rows : List MRow} {names : List (List Nat)} (hn : ∀ r ∈ rows, ∀ p ∈ r.pt, p ∈ names) (hs : ∀ r ∈ rows, r.so ∈ names) (h2 : ∀ r ∈ rows, r.pt.length ≤ 2) (h4 : names.length ≤ 4) : SzOk rows ((List.replicate 4 rows).flatten.foldl stepS fun _ => none) := by
  obtain ⟨h1, h3⟩ := passes hn 4
  refine ⟨fun k n e => ?_⟩
  have hd := h1 k n e
  obtain ⟨m, hm, hle⟩ := isD_of hd
  obtain ⟨mr, ms, hmr, rfl, ha, en⟩ := best_row hm
  have r4 : rank rows names m < 4 := Nat.lt_of_lt_of_le (rank_le (hs mr hmr) hm) h4
  have e2 := h3 _ m hm r4
  rw [e] at e2
  obtain rfl := Option.some.inj e2
  have b := size_le hn h2 4 _ n hm r4
  obtain ⟨q1, q2⟩ := sum_exact (S := (List.replicate 4 rows).flatten.foldl stepS fun _ => none) ha fun p m' hp hdp hle => by
    have := rank_lt (rows := rows) (n := n) (hn mr hmr p hp) hdp (by omega)
    exact h3 p m' hdp (by omega)
  exact ⟨by omega, by omega, mr, hmr, rfl, q1, by rw [q2]; exact en⟩
abbrev s__law_sizes : Stmt := top 64
abbrev N__law_sizes : List Str := ["_law_g", "_law_sizes_here", "_law_making", "_law_kind", "_law_parts", "_law_size", "_law_part"]
abbrev P__law_sizes : List Str := ["_law_g"]
theorem sc__law_sizes : FnScope N__law_sizes P__law_sizes (defScope s__law_sizes) := ⟨rfl, rfl, rfl, by decide +kernel, rfl, by decide +kernel, by decide +kernel⟩
structure Zs (mg : Str → Option Value) : Prop where
  all : mg "all" = none
  sum : mg "sum" = none
  min : mg "min" = none
/-- sizes on the heap -/
structure SzAt (Y : Hp) (dz : Addr) (kvs : List (Key × V)) (S : List Nat → Option Nat) (names : List (List Nat)) : Prop where
  d : Y dz = some (.dK kvs)
  v : ∀ k, valV kvs (kS k) = (S k).map fun n => V.int ((n : Nat) : Int)
  ks : ∃ ws : List (List Nat), kvs.map (·.1) = ws.map kS ∧ ws.Nodup ∧ ∀ w ∈ ws, w ∈ names
def spSizes (K : PySem.W.Frag) : Sp := fun vs H Q _ => ∃ (a gd : Addr) (rs : List SRow) (ms : List MRow) (ru : List RRow) (roof : Nat), vs = [.ref gd] ∧ GramIn K H a gd rs ms ru roof ∧ GramOk rs ms ru roof ∧
  ∀ (H' : Hp) (dz : Addr) (kvs : List (Key × V)) (S : List Nat → Option Nat), Same H H' → H dz = none → SzAt H' dz kvs S (rs.map SRow.nm) → SzOk ms S → Q (.ref dz) H'
theorem dpAll_rep {K : PySem.W.Frag} {H : Hp} {vs : List V} {ds : List PyData} (h : DpAll K H vs ds) : ∀ n, DpAll K H (List.replicate n vs).flatten (List.replicate n ds).flatten
  | 0 => .nil
  | n + 1 => by
    rw [List.replicate_succ, List.flatten_cons, List.replicate_succ, List.flatten_cons]
    exact dpAll_appI h (dpAll_rep h n)
theorem put_in {kvs : List (Key × V)} {k : Key} (v : V) (hk : k ∈ kvs.map (·.1)) : (putK kvs k v).map (·.1) = kvs.map (·.1) := by
  unfold putK
  have h : (kvs.any fun kv => decide (kv.1 = k)) = true := by
    obtain ⟨x, hx, e⟩ := List.mem_map.mp hk
    exact List.any_eq_true.mpr ⟨x, hx, decide_eq_true e⟩
  rw [if_pos h, List.map_map]
  refine List.map_congr_left fun x _ => ?_
  show (if x.1 = k then (x.1, v) else x).1 = x.1
  split <;> rfl
theorem put_out {kvs : List (Key × V)} {k : Key} (v : V) (hk : k ∉ kvs.map (·.1)) : (putK kvs k v).map (·.1) = kvs.map (·.1) ++ [k] := by
  unfold putK
  have h : ¬ (kvs.any fun kv => decide (kv.1 = k)) = true := fun h => hk (by
    obtain ⟨x, hx, e⟩ := List.any_eq_true.mp h
    exact List.mem_map.mpr ⟨x, hx, of_decide_eq_true e⟩)
  rw [if_neg h, List.map_append]
  rfl
theorem SzAt.put {Y : Hp} {dz : Addr} {kvs : List (Key × V)} {S : List Nat → Option Nat} {names : List (List Nat)} (h : SzAt Y dz kvs S names) {k : List Nat} (hk : k ∈ names) (n : Nat) : SzAt (upd Y dz (.dK (putK kvs (kS k) (.int ((n : Nat) : Int))))) dz (putK kvs (kS k) (.int ((n : Nat) : Int))) (putS S k n) names := by
  refine ⟨upd_same, fun j => ?_, ?_⟩
  · rw [valV_put]
    unfold putS
    by_cases e : j = k
    · rw [if_pos (by rw [e]), if_pos e]
      rfl
    · rw [if_neg (fun z => e (kS_inj z)), if_neg e]
      exact h.v j
  · obtain ⟨ws, h1, h2, h3⟩ := h.ks
    have hkk : kS k ∈ ws.map kS ↔ k ∈ ws := ⟨fun z => by
      obtain ⟨w, hw, e⟩ := List.mem_map.mp z
      rw [← kS_inj e]
      exact hw, fun z => List.mem_map_of_mem z⟩
    by_cases e : k ∈ ws
    · rw [put_in _ (by rw [h1]; exact hkk.mpr e), h1]
      exact ⟨ws, rfl, h2, h3⟩
    · rw [put_out _ (by rw [h1]; exact fun z => e (hkk.mp z)), h1]
      refine ⟨ws ++ [k], by rw [List.map_append]; rfl, ?_, fun w hw => ?_⟩
      · rw [List.nodup_append]
        exact ⟨h2, by simp, fun x hx y hy z => by
          rw [List.mem_singleton.mp hy] at z
          rw [z] at hx
          exact e hx⟩
      · rcases List.mem_append.mp hw with z | z
        · exact h3 w z
        · rw [List.mem_singleton.mp z]
          exact hk
theorem SzAt.same {Y Z : Hp} {dz : Addr} {kvs : List (Key × V)} {S : List Nat → Option Nat} {names : List (List Nat)} (h : SzAt Y dz kvs S names) (s : Same Y Z) : SzAt Z dz kvs S names := ⟨s _ _ h.d, h.v, h.ks⟩
theorem sum_cast (f : List Nat → Nat) : ∀ pt : List (List Nat), (pt.map fun p => ((f p : Nat) : Int)).sum = (((pt.map f).sum : Nat) : Int)
  | [] => rfl
  | p :: pt => by
    rw [List.map_cons, List.sum_cons, sum_cast f pt, List.map_cons, List.sum_cons]
    omega
theorem all_cast (S : List Nat → Option Nat) : ∀ pt : List (List Nat), (pt.map fun p => (S p).isSome).all id = allIn S pt
  | [] => rfl
  | p :: pt => by
    rw [List.map_cons, List.all_cons, all_cast S pt]
    rfl
theorem min_cast (i j : Nat) : (if ((j : Nat) : Int) < ((i : Nat) : Int) then ((j : Nat) : Int) else ((i : Nat) : Int)) = ((min i j : Nat) : Int) := by
  split <;> omega
theorem get_cast (S : List Nat → Option Nat) (k : List Nat) (n : Nat) : ((S k).map fun n => V.int ((n : Nat) : Int)).getD (.int ((n : Nat) : Int)) = .int (((S k).getD n : Nat) : Int) := by
  cases S k <;> rfl
theorem m_at {K : PySem.W.Frag} {H : Hp} {v : V} {mr : MRow} (h : Dp K H v mr.d) : ∃ q t, v = .ref q ∧ SqT K H q [.str (SX.S mr.nm), .str (SX.S mr.so), .ref t] ∧ SqT K H t (nmV mr.pt) := row_at h
theorem nmV_get {ws : List (List Nat)} {i : Nat} {x : V} (h : (nmV ws)[i]? = some x) : ∃ u, ws[i]? = some u ∧ x = .str (SX.S u) := by
  unfold nmV at h
  rw [List.getElem?_map] at h
  cases e : ws[i]? with
  | none => rw [e] at h; cases h
  | some u => rw [e] at h; exact ⟨u, rfl, (Option.some.inj h).symm⟩
section
variable {P : Program} {w : World} {K : PySem.W.Frag} {mg : Str → Option Value} {base : Heap}
theorem ok_sizes (T : Zs mg) (D : Dd K mg "_law_sizes" s__law_sizes P__law_sizes) : C8.Cal P w K mg base 2 "_law_sizes" (spSizes K) [] := by
  refine D.cal sc__law_sizes (fun vs H Q E h => ?_) (fun f cdv A outer s H vs Q E hr h => ?_)
  · obtain ⟨a, gd, rs, ms, ru, roof, rfl, _⟩ := h
    rfl
  · obtain ⟨a, gd, rs, ms, ru, roof, rfl, gi, go, q⟩ := h
    refine ⟨_, (pss_cons (ps_set (i := 1) sc__law_sizes.nd rfl (Or.inr rfl) pe_dnewK)
        (pss_cons (ps_for PassesOwn.never rfl (pi_list (pe_op op_rep (pe_dget (hu_of hr) (pv 0) pe_str (fun _ _ => rfl)) pe_int)) (pg_tup rfl (pgs_cons (pg_name (i := 2) sc__law_sizes.nd rfl (Or.inl rfl)) (pgs_cons (pg_name (i := 3) sc__law_sizes.nd rfl (Or.inl rfl)) (pgs_cons (pg_name (i := 4) sc__law_sizes.nd rfl (Or.inl rfl)) pgs_nil))))
          (pss_one (ps_if (pt_val (pe_callB (cr_all rfl) (by rfl) T.all (by decide +kernel) (pa_cons (pe_lc (own := [("_law_part", 6)]) (by exact rfl) sc__law_sizes.nd (pi_tup (pv 4)) (blkOk_by (own := [("_law_part", 6)]) (N := N__law_sizes) (sc := defScope s__law_sizes) (by decide +kernel)) (fun _ _ _ _ _ => (pg_name (i := 6) sc__law_sizes.nd rfl (Or.inl rfl))) (fun _ _ _ _ _ => pts_nil) (fun _ _ _ _ _ => (pe_cmp (pc_din (hu_of hr) (pv 6) (pv 1)) (by with_unfolding_all rfl)))) pa_nil)))
          (pss_cons (ps_set (i := 5) sc__law_sizes.nd rfl (Or.inl rfl) (pe_op op_add pe_int (pe_callB (cr_sum rfl) (by rfl) T.sum (by decide +kernel) (pa_cons (pe_lc (own := [("_law_part", 6)]) (by exact rfl) sc__law_sizes.nd (pi_tup (pv 4)) (blkOk_by (own := [("_law_part", 6)]) (N := N__law_sizes) (sc := defScope s__law_sizes) (by decide +kernel)) (fun _ _ _ _ _ => (pg_name (i := 6) sc__law_sizes.nd rfl (Or.inl rfl))) (fun _ _ _ _ _ => pts_nil) (fun _ _ _ _ _ => (pe_dget (hu_of hr) (pv 1) (pv 6) (fun _ _ => rfl)))) pa_nil))))
        (pss_one (ps_dput (hu_of hr) (pv 1) (pv 3) (pe_callB (call_min2 rfl) (by rfl) T.min (by decide +kernel) (pa_cons (pv 5) (pa_cons (pe_dget2 (hu_of hr) (pv 1) (pv 3) (pv 5) (by exact ⟨rfl, rfl, rfl, rfl⟩)) pa_nil))) (by rfl))))
          pss_nil)))
        (pss_one (ps_ret (pv 1))))), ?_⟩
    obtain ⟨ls, lm, lr, of, gkv, gs, _⟩ := gi.ex
    obtain ⟨mv, hlm, hmv⟩ := gs.hlm
    have lmv := dpAll_len hmv
    rw [List.length_map] at lmv
    have hm8 := go.m8
    refine fun dz nz => ?_
    have s1 := same_upd (o := .dK []) nz
    refine ⟨_, rfl, gd, .ref lm, rfl, by have h := DGet.k (k := Sum.inr "makings") (s1 _ _ gs.hgd); rw [gs.mak] at h; exact h, lm, 4, mv, rfl, rfl, s1 _ _ hlm, by decide, by decide, ?_, fun L nL => ?_⟩
    · refine Nat.le_trans (show _ ≤ 100 from ?_) (by decide)
      show mv.length * 4 ≤ 100
      omega
    have s2 := same_upd (o := .lst (List.replicate (Int.toNat 4) mv).flatten) nL
    have s12 := s1.trans s2
    have nzL : dz ≠ L := fun z => by
      rw [← z, upd_same] at nL
      cases nL
    have eR : (List.replicate 4 (ms.map MRow.d)).flatten = ((List.replicate 4 ms).flatten).map MRow.d := by simp [List.map_flatten]
    have hR : DpAll K (upd (upd H dz (.dK [])) L (.lst (List.replicate (Int.toNat 4) mv).flatten)) (List.replicate 4 mv).flatten (((List.replicate 4 ms).flatten).map MRow.d) := by
      rw [← eR]
      exact dpAll_same s12 (dpAll_rep hmv 4)
    have lR := dpAll_len hR
    rw [List.length_map] at lR
    have lR32 : ((List.replicate 4 ms).flatten).length ≤ 32 := by
      simp
      omega
    have hmem : ∀ r ∈ (List.replicate 4 ms).flatten, r ∈ ms := fun r hr => by
      obtain ⟨l, hl, hrl⟩ := List.mem_flatten.mp hr
      rw [List.eq_of_mem_replicate hl] at hrl
      exact hrl
    have hL2 : (upd (upd H dz (.dK [])) L (.lst (List.replicate (Int.toNat 4) mv).flatten)) L = some (.lst (List.replicate 4 mv).flatten) := upd_same
    have hz2 : (upd (upd H dz (.dK [])) L (.lst (List.replicate (Int.toNat 4) mv).flatten)) dz = some (.dK []) := s2 _ _ upd_same
    obtain ⟨Y0, eY0⟩ : ∃ Y0, Y0 = upd (upd H dz (.dK [])) L (.lst (List.replicate (Int.toNat 4) mv).flatten) := ⟨_, rfl⟩
    rw [← eY0] at s12 hR hL2 hz2 ⊢
    generalize eRR : (List.replicate 4 ms).flatten = R at hR lR lR32 hmem
    refine ⟨L, rfl, ⟨_, SqL.of hL2⟩, for_list (K := K) (a := L) (xs := (List.replicate 4 mv).flatten) (fun j σ Y => ∃ (y2 y3 y4 y5 y6 : Option V) (kvs : List (Key × V)), σ = [some (.ref gd), some (.ref dz), y2, y3, y4, y5, y6] ∧ Same H Y ∧ KeepT Y0 Y ∧ Y L = some (.lst (List.replicate 4 mv).flatten) ∧ SzAt Y dz kvs ((R.take j).foldl stepS fun _ => none) (rs.map SRow.nm) ∧ kvs.length ≤ j)
      ⟨none, none, none, none, none, [], rfl, s12, KeepT.refl _, hL2, ⟨hz2, fun k => rfl, [], rfl, List.nodup_nil, (fun w h => nomatch h)⟩, Nat.le_refl _⟩ (fun j σ Y _ ⟨_, _, _, _, _, _, _, _, _, h, _⟩ => SqL.of h) ?_ ?_⟩
    · rintro j x σ Y hx ⟨y2, y3, y4, y5, y6, kvs, rfl, sY, kY, hL, sz, kl⟩
      obtain ⟨dd, hdd, hxd⟩ := dpAll_at hR hx
      rw [List.getElem?_map] at hdd
      obtain ⟨mr, hmr, rfl⟩ : ∃ mr, R[j]? = some mr ∧ dd = mr.d := by
        cases h : R[j]? with
        | none => rw [h] at hdd; cases hdd
        | some e => rw [h] at hdd; exact ⟨e, rfl, (Option.some.inj hdd).symm⟩
      have hj : j < R.length := (List.getElem?_eq_some_iff.mp hmr).1
      have tk : R.take (j + 1) = R.take j ++ [mr] := by rw [List.take_add_one, hmr]; rfl
      have hmm := hmem mr (List.mem_of_getElem? hmr)
      have mok := go.ok mr hmm
      have p2 := mok.p2
      obtain ⟨q0, t, rfl, hq, ht⟩ := m_at (dp_imm kY hxd mr.imm)
      rw [tk, List.foldl_append]
      generalize (R.take j).foldl stepS (fun _ => none) = S at sz
      refine ⟨q0, _, rfl, hq, rfl, _, _, rfl, _, _, rfl, _, _, rfl, rfl, ?_⟩
      -- are all its parts told
      refine ⟨_, rfl, t, rfl, ⟨_, ht⟩, fun D nD => ?_⟩
      refine lc_tup (K := K) (a := t) (xs := nmV mr.pt) (fun i U => Same Y U ∧ U D = some (.lst ((mr.pt.take i).map fun p => V.bl (S p).isSome))) ⟨same_upd nD, upd_same⟩ (fun i U _ h => Same.seqT h.1 ht) ?_ ?_
      · rintro i v U hv ⟨sU, hD⟩
        obtain ⟨p, hp, rfl⟩ := nmV_get hv
        have hi : i < mr.pt.length := (List.getElem?_eq_some_iff.mp hp).1
        refine ⟨rfl, yesT ?_⟩
        refine ⟨_, rfl, _, rfl, dz, _, rfl, DGet.k (k := kS p) (sU _ _ sz.d), _, hD, small1000 (by rw [List.length_map, List.length_take]; omega), Same.at_ sU nD, ?_⟩
        rw [sz.v p, List.take_add_one, hp, List.map_append]
        rw [show ((S p).map fun n => V.int ((n : Nat) : Int)).isSome = (S p).isSome by cases S p <;> rfl]
        exact upd_same
      · rintro U ⟨sU, hD⟩
        rw [nmV_len, List.take_length] at hD
        refine ⟨D, mr.pt.map fun p => (S p).isSome, rfl, SqL.of (by rw [List.map_map]; exact hD), _, rfl, ?_⟩
        rw [all_cast]
        have szU := sz.same sU
        have sHU := sY.trans sU
        have kU := kY.trans (KeepT.of sU)
        have hLU := sU _ _ hL
        cases ha : allIn S mr.pt with
        | false =>
          refine ⟨_, _, _, _, _, kvs, rfl, sHU, kU, hLU, ?_, by omega⟩
          show SzAt U dz kvs (stepS S mr) (rs.map SRow.nm)
          unfold stepS
          rw [if_neg (by rw [ha]; decide)]
          exact szU
        | true =>
          have ht2 := Same.seqT sU ht
          -- its size
          refine ⟨_, rfl, t, rfl, ⟨_, ht2⟩, fun D2 nD2 => ?_⟩
          refine lc_tup (K := K) (a := t) (xs := nmV mr.pt) (fun i W => Same U W ∧ W D2 = some (.lst ((mr.pt.take i).map fun p => V.int (((S p).getD 0 : Nat) : Int)))) ⟨same_upd nD2, upd_same⟩ (fun i W _ h => Same.seqT h.1 ht2) ?_ ?_
          · rintro i v W hv ⟨sW, hD2⟩
            obtain ⟨p, hp, rfl⟩ := nmV_get hv
            have hi : i < mr.pt.length := (List.getElem?_eq_some_iff.mp hp).1
            have hsome : ∃ n, S p = some n := by
              have := List.all_eq_true.mp ha p (List.mem_of_getElem? hp)
              cases e : S p with
              | none => rw [e] at this; cases this
              | some n => exact ⟨n, rfl⟩
            obtain ⟨n, hn⟩ := hsome
            refine ⟨rfl, yesT ?_⟩
            refine ⟨_, rfl, _, rfl, dz, .int ((n : Nat) : Int), rfl, by have h := DGet.k (k := kS p) (sW _ _ szU.d); rw [sz.v p, hn] at h; exact h, _, hD2, small1000 (by rw [List.length_map, List.length_take]; omega), Same.at_ sW nD2, ?_⟩
            rw [List.take_add_one, hp, List.map_append]
            show _ = some (HO.lst (_ ++ [V.int (((S p).getD 0 : Nat) : Int)]))
            rw [hn]
            exact upd_same
          · rintro W ⟨sW, hD2⟩
            rw [nmV_len, List.take_length] at hD2
            refine ⟨D2, mr.pt.map fun p => (((S p).getD 0 : Nat) : Int), rfl, SqL.of (by rw [List.map_map]; exact hD2), _, _, rfl, rfl, ?_⟩
            rw [sum_cast]
            have szW := szU.same sW
            refine ⟨_, rfl, _, rfl, dz, rfl, .inl ⟨_, Rd.of szW.d⟩, _, rfl, _, rfl, _, DGet.k (k := kS mr.so) szW.d, ?_⟩
            rw [sz.v mr.so]
            show ∃ i j, _ = _ ∧ _
            refine ⟨((1 + sumS S mr.pt : Nat) : Int), (((S mr.so).getD (1 + sumS S mr.pt) : Nat) : Int), ?_, ?_⟩
            · rw [← get_cast]
              rfl
            · rw [min_cast]
              refine ⟨_, rfl, _, rfl, dz, _, rfl, DPut.k (k := kS mr.so) szW.d (small1000 (by omega)), _, _, _, _, _, putK kvs (kS mr.so) (.int ((min (1 + sumS S mr.pt) ((S mr.so).getD (1 + sumS S mr.pt)) : Nat) : Int)), rfl, ?_, ?_, ?_, ?_, ?_⟩
              · exact fun c o hc => by
                  rw [upd_ne (ne_of_none hc nz)]
                  exact (sHU.trans sW) c o hc
              · exact (kU.trans (KeepT.of sW)).trans (KeepT.at_ szW.d dK_no)
              · rw [upd_ne nzL.symm]
                exact sW _ _ hLU
              · show SzAt _ dz _ (stepS S mr) (rs.map SRow.nm)
                unfold stepS
                rw [if_pos ha]
                obtain ⟨r, hr, er⟩ := mok.so mr.so (List.mem_cons_self ..)
                exact szW.put (List.mem_map.mpr ⟨r, hr, er⟩) _
              · have := length_putK kvs (kS mr.so) (.int ((min (1 + sumS S mr.pt) ((S mr.so).getD (1 + sumS S mr.pt)) : Nat) : Int))
                omega
    · rintro σ Y ⟨y2, y3, y4, y5, y6, kvs, rfl, sY, kY, hL, sz, kl⟩
      rw [lR, List.take_length, ← eRR] at sz
      have nm : ∀ r ∈ ms, ∀ k ∈ r.places, k ∈ rs.map SRow.nm := fun r hr k hk => by
        obtain ⟨x, hx, e⟩ := (go.ok r hr).so k hk
        exact List.mem_map.mpr ⟨x, hx, e⟩
      exact ⟨_, rfl, q Y dz kvs _ sY nz sz (four_passes (names := rs.map SRow.nm) (fun r hr p hp => nm r hr p (List.mem_cons_of_mem _ hp)) (fun r hr => nm r hr _ (List.mem_cons_self ..)) (fun r hr => (go.ok r hr).p2) (by rw [List.length_map]; exact go.so.le))⟩
end
/-! ### enumerate of a tuple -/
def tupIt (l : Addr) : Obj := { cls := .type "tuple_iterator", data := .fields #[.ref l, .int 0 0] }
def enumAt (it : Addr) : Obj := { cls := .type "enumerate", data := .fields #[.none, .bool false, .ref it, rawInt 0, .none, .none] }
set_option maxRecDepth 100000 in
set_option maxHeartbeats 1000000 in
theorem meets_enumT (l : Addr) (items : Array Value) (n : Nat) (dct : Option Addr) (sl : Array (Option Value)) :
    Meets (Builtin.«enumerate.__new__» ⟨[.type "enumerate", .ref l], []⟩) (fun _ R s => s.heap.get? l = some { cls := .type "tuple", dict := dct, data := .seq items n, slots := sl } ∧
      R (.ok (.ret (.ref (s.heap.push (tupIt l)).objs.size))) { s with heap := (s.heap.push (tupIt l)).push (enumAt s.heap.objs.size) }) :=
  .of_wp fun prog w A R s h => by
    obtain ⟨hp, g, d, tk, os⟩ := s
    obtain ⟨hl, h⟩ := h
    have hsub := sub_enumerate
    have hL : Heap.IsTuple (Shared.heap ⟨hp, g, d, tk, os⟩) l items := ⟨_, hl, rfl, n, rfl⟩
    wp_walk using AutoSeq1.wpAny_loadPart' hl
    refine wpAny_stack_any fun st => wpAny_pure ?_
    split
    · rename_i c _ _ _ _ _
      cases (c == Value.type "enumerate")
      · wp_walk using AutoSeq1.wpAny_loadPart' hl, wpAny_pyIter_tuple hL
        exact ⟨_, rfl, h⟩
      · wp_walk using AutoSeq1.wpAny_loadPart' hl, wpAny_pyIter_tuple hL
        exact ⟨_, rfl, h⟩
    · wp_walk using AutoSeq1.wpAny_loadPart' hl, wpAny_pyIter_tuple hL
      exact ⟨_, rfl, h⟩
theorem call_enumT {prog : Program} {w : World} {A : Around} {E : Value → Shared → Prop} {s : Shared} {l : Addr} {items : Array Value} {Q : Value → Shared → Prop} (hL : s.heap.IsTuple l items)
    (h : ∀ h', IsEnum h' (s.heap.objs.size + 1) s.heap.objs.size 0 .none → h'.IsTupleIter s.heap.objs.size l 0 → (∀ b o, s.heap.get? b = some o → h'.get? b = some o) → Q (.ref (s.heap.objs.size + 1)) { s with heap := h' }) :
    wpAny (model prog w) A (call (.type "enumerate") [.ref l]) Q E s := by
  obtain ⟨⟨c, dct, dt, sl⟩, hl, hc, n, hd⟩ := hL
  replace hc : c = .type "tuple" := hc
  replace hd : dt = .seq items n := hd
  subst hc hd
  refine callType_new F.called_enumerate (by decide) (F.typeCall_enumerate_1 _) (F.newCall_enumerate_1 _) (fun obj => F.args_object_init_2 obj _) F.entry_enumerate_new (meets_enumT l items n dct sl) ⟨hl, ?_⟩
  have hz : (s.heap.push (tupIt l)).objs.size = s.heap.objs.size + 1 := Heap.size_push ..
  show _ ∧ _
  rw [hz]
  have he : IsEnum ((s.heap.push (tupIt l)).push (enumAt s.heap.objs.size)) (s.heap.objs.size + 1) s.heap.objs.size 0 .none := by
    have := Heap.get?_push_size (s.heap.push (tupIt l)) (o := enumAt s.heap.objs.size) rfl
    rw [hz] at this
    exact this
  exact ⟨⟨_, he, rfl⟩, h _ he ⟨_, Heap.get?_push_of_some _ (Heap.get?_push_size _ rfl), rfl, rfl⟩ fun b o x => Heap.get?_push_of_some _ (Heap.get?_push_of_some _ x)⟩
/-- the tuple at a, each item in a new pair -/
def IteT (K : PySem.W.Frag) (a : Addr) : It :=
  ⟨fun i H => ∃ (xs : List V) (x : V), SqT K H a xs ∧ xs[i]? = some x, fun i H v H' => ∃ T x, v = .ref T ∧ H T = none ∧ H' = upd H T (.tup [.int (i : Nat), x]) ∧ ∀ xs, SqT K H a xs → xs[i]? = some x, fun i H => ∃ xs : List V, SqT K H a xs ∧ xs.length ≤ i⟩
theorem turn_enumT {P : Program} {w : World} {K : PySem.W.Frag} {elts : List Expr} {kk : Nat} {tpos : Pos} (a e it : Addr) (hai : a ≠ it) (hea : e ≠ a) :
    Turn P w K (.Tuple elts kk tpos) (IteT K a) [e, it] e (fun i h => (∃ old, IsEnum h e it ((i : Nat) : Int) old) ∧ h.IsTupleIter it a i ∧ e ≠ it) where
  mem := by simp
  obj := fun i h st b hb => by
    obtain ⟨⟨old, he⟩, ⟨o, ho, hc, hd⟩, _⟩ := st
    have e' : b = e ∨ b = it := by simpa using hb
    rcases e' with z | z
    · rw [z]; exact ⟨_, he, fun v q => nomatch q⟩
    · rw [z]; exact ⟨o, ho, fun v q => by rw [hd] at q; cases q⟩
  keep := fun i h h' st k => let ⟨⟨old, he⟩, hi, hne⟩ := st; ⟨⟨old, k e (by simp) _ he⟩, hi.at fun o q => k it (by simp) o q, hne⟩
  item := by
    intro X hP hw hK hc i pins s σ H E I hf st hg
    subst hP hw hK
    obtain ⟨⟨old, he⟩, hit, hne⟩ := st
    obtain ⟨xs, x, hq, hx⟩ := hg
    obtain ⟨its, rv, p, hz⟩ := I.tuple hq
    obtain ⟨u, hu, ru⟩ := rv.get hx
    have hel : e < s.heap.objs.size := Heap.lt_size he
    have hil : it < s.heap.objs.size := by obtain ⟨_, q, _⟩ := hit; exact Heap.lt_size q
    have hlt : i < its.toArray.size := by
      have := (List.getElem?_eq_some_iff.mp hu).1
      simpa using this
    refine wpAny_pyNext_enum_itemD (Draws.tuple (A := X.A.in1) (I.ok.hd hc) it a hai its.toArray) he ⟨hit, p⟩ hlt hne (by simp [hne, hea]) fun y h' tk hy ho hst hT hsz hk => ?_
    have hyu : y = u := by
      have : its.toArray[i]? = some y := hy
      simp at this
      rw [hu] at this
      exact (Option.some.inj this).symm
    subst hyu
    refine ⟨_, rfl, wpAny_letOwnedTupleGo_enum (s := { s with heap := h', toks := tk + 1 }) ho fun h'' he' sb => ?_⟩
    have hT2 : h''.get? s.heap.objs.size = some { cls := .type "tuple", data := .seq #[.int i tk, y] } := (sb.2 _ (Nat.ne_of_gt hel)).trans hT
    have new : ObjOk X.prog X.w (upd H s.heap.objs.size (.tup [.int (i : Nat), x])) h'' s.heap.objs.size (.tup [.int (i : Nat), x]) :=
      ⟨by show 2 ≤ sizeLine; decide, [.int i tk, y], .cons ⟨_, rfl⟩ (.cons ru .nil), ⟨_, hT2, rfl, _, rfl⟩⟩
    have I1 : Inv X pins σ (upd H s.heap.objs.size (.tup [.int (i : Nat), x])) { s with heap := h'', toks := tk + 1 } :=
      I.turnedNew (ch := [e, it]) (fun b ob hb q => (sb.2 b (fun z => hb (by simp [z]))).trans (hk b ob (fun z => hb (by simp [z])) (fun z => hb (by simp [z])) q)) hf (Nat.le_refl _) new
    refine ⟨.ref s.heap.objs.size, _, I1, rfl, ⟨_, x, rfl, I.hok.fresh (Nat.le_refl _), rfl, fun ys hy => by rw [I.tuple_inj hy hq]; exact hx⟩, ⟨⟨y, ?_⟩, hst.1.at fun o q => (sb.2 it (Ne.symm hne)).trans q, hne⟩, fun b hb => ?_⟩
    · have e1 : ((i + 1 : Nat) : Int) = (i : Int) + 1 := by omega
      rw [e1]
      exact he'
    · have hb' : b < s.heap.objs.size := by
        have e' : b = e ∨ b = it := by simpa using hb
        rcases e' with z | z
        · rw [z]; exact hel
        · rw [z]; exact hil
      rw [upd_ne (Nat.ne_of_lt hb')]
      exact (hf b hb).1
  done := by
    intro X hP hw hK hc i pins s σ H E I hf st hg
    subst hP hw hK
    obtain ⟨⟨old, he⟩, hit, hne⟩ := st
    obtain ⟨xs, hq, hx⟩ := hg
    obtain ⟨its, rv, p, hz⟩ := I.tuple hq
    obtain ⟨f0, f1, f2, f3, f4, f5⟩ := hf it (by simp)
    have hl := rv.length
    have D : Draws X.prog X.w X.A.in1 it [it, a] i (fun _ _ => True) (fun j h => j = i ∧ h.IsTupleIter it a j ∧ h.IsTuple a its.toArray) :=
      { live := fun _ _ st => let ⟨o, ho, _⟩ := st.2.1; ⟨o, ho⟩
        frame := fun _ _ _ st hk => ⟨st.1, st.2.1.at fun o e => hk it (by simp) o e, st.2.2.at fun o e => hk a (by simp) o e⟩
        item := fun j s Q E hj st _ => absurd st.1 (Nat.ne_of_lt hj)
        done := fun s Q E st hE => wpAny_nextOf_tuple_end (I.ok.hd hc) st.2.1 st.2.2 (by simp; omega) hE }
    exact wpAny_pyNext_enum_endD D he ⟨rfl, hit, p⟩ fun h' eb => ⟨rfl, I.turned (t' := s.toks) (fun b o hb q => eb b o hb q) f0 f1 f3 f4 f5⟩
  self := fun A i s Q E st h => let ⟨⟨_, he⟩, _⟩ := st; wpAny_pyIter_enum he h
def iEnumT (K : PySem.W.Frag) (ta : TA) : TI := fun σ H R => ta σ H fun vs H1 => ∃ a xs, vs = [.ref a] ∧ SqT K H1 a xs ∧ R (IteT K a) H1
theorem pi_enumT {X : Cx} {e : Expr} {ta : TA} {p pos tpos : Pos} {elts : List Expr} {kk : Nat} (hg : Gl X "enumerate") (hm : X.mg "enumerate" = none) (ha : PA X [e] ta) (hs : starEach [e] X.env = [(false, eval e X.env)] := by rfl) :
    PI X (.Tuple elts kk tpos) (.Call (.Name "enumerate" p) [e] [] pos) (iEnumT X.K ta) := by
  refine ⟨fun pins s σ H R I h => ?_⟩
  refine Call_ (ld_blt I hg hm boot_enumerate (PyProof.Rows.callWith_type1 (thn (ha.run pos pins s σ H _ I h) fun us s1 ⟨vs, H1, I1, r1, q1⟩ => ?_) hs rfl))
  obtain ⟨a, xs, ex, hq, q⟩ := q1
  subst ex
  cases r1 with
  | cons r rr =>
    cases rr
    cases r
    obtain ⟨its, rv, p', hz⟩ := I1.tuple hq
    have hal : a < s1.heap.objs.size := IsTup.lt p'
    refine call_enumT p' fun h' he hit hk => wpAny_pyIter_enum he ?_
    have I2 : Inv X pins σ H1 { s1 with heap := h' } := I1.kept (t' := s1.toks) hk
    refine ⟨s1.heap.objs.size + 1, [s1.heap.objs.size + 1, s1.heap.objs.size], _, _, H1, rfl, I2, turn_enumT a (s1.heap.objs.size + 1) s1.heap.objs.size (Nat.ne_of_lt hal) (Nat.ne_of_gt (Nat.lt_succ_of_lt hal)), ⟨⟨.none, he⟩, hit, Nat.succ_ne_self _⟩, fun b hb => ?_, q⟩
    have e' : b = s1.heap.objs.size + 1 ∨ b = s1.heap.objs.size := by simpa using hb
    have hle : s1.heap.objs.size ≤ b := by
      rcases e' with z | z
      · rw [z]; exact Nat.le_add_right _ _
      · rw [z]; exact Nat.le_refl _
    exact I1.fpOk hle (I1.hok.fresh hle)
theorem walk_enumT {K : PySem.W.Frag} {a : Addr} {xs : List V} : Walk (IteT K a) xs.length (fun H => SqT K H a xs) (YPair (fun i => some (.int (i : Nat))) (fun i => xs[i]?)) := by
  refine ⟨fun i _ hi q => ⟨xs, xs[i], q, by simp [hi]⟩, fun _ q => ⟨xs, q, Nat.le_refl _⟩, fun i H v H' _ q y => ?_⟩
  obtain ⟨T, x, h1, h2, h3, h4⟩ := y
  exact ⟨T, .int (i : Nat), x, h1, h2, h3, rfl, h4 xs q⟩
/-! ### trees of a grammar -/
theorem GramIn.go {K : PySem.W.Frag} {Y Z : Hp} {a gd : Addr} {rs : List SRow} {ms : List MRow} {ru : List RRow} {roof : Nat} {b : List V} (h : GramIn K Y a gd rs ms ru roof) (hb : Y a = some (.lst b)) (t : But a Y Z) : GramIn K Z a gd rs ms ru roof := by
  obtain ⟨ls, lm, lr, of, kvs, gs, by_, byk, h1, h2, h3, hks, h4⟩ := h.ex
  refine ⟨ls, lm, lr, of, kvs, gs.go hb t, by_, byk, h1, h2, t _ _ (fun z => by rw [z, hb] at h3; cases h3) h3, hks, fun m hm => ?_⟩
  obtain ⟨v, h5, h6⟩ := h4 m hm
  exact ⟨v, h5, dp_imm (KeepT.but hb t) h6 (m_imm m)⟩
theorem SzAt.but {Y Z : Hp} {a dz : Addr} {kvs : List (Key × V)} {S : List Nat → Option Nat} {names : List (List Nat)} {b : List V} (h : SzAt Y dz kvs S names) (hb : Y a = some (.lst b)) (t : But a Y Z) : SzAt Z dz kvs S names :=
  ⟨t _ _ (fun z => by have := h.d; rw [z, hb] at this; cases this) h.d, h.v, h.ks⟩
mutual
/-- a tree of the sort: so deep, of so many nodes -/
inductive Gt (ms : List MRow) : List Nat → Nat → Nat → PyData → Prop
  | mk {mr : MRow} {i : Int} {n k : Nat} {ds : List PyData} (hm : mr ∈ ms) (h0 : 0 ≤ i) (h1 : i < 1000000) (h : GtAll ms mr.pt n k ds) : Gt ms mr.so (n + 1) (k + 1) (.tuple [strD mr.nm, .int i, .tuple ds])
inductive GtAll (ms : List MRow) : List (List Nat) → Nat → Nat → List PyData → Prop
  | nil (n : Nat) : GtAll ms [] n 0 []
  | cons {k : List Nat} {ks : List (List Nat)} {n j j' : Nat} {d : PyData} {ds : List PyData} (h : Gt ms k n j d) (a : GtAll ms ks n j' ds) : GtAll ms (k :: ks) n (j + j') (d :: ds)
end
theorem GtAll.snoc {ms : List MRow} : ∀ {ks : List (List Nat)} {n j : Nat} {ds : List PyData}, GtAll ms ks n j ds → ∀ {k : List Nat} {j' : Nat} {d : PyData}, Gt ms k n j' d → GtAll ms (ks ++ [k]) n (j + j') (ds ++ [d])
  | _, _, _, _, .nil n, k, j', d, h => by
    rw [Nat.zero_add]
    exact (show GtAll ms [k] n (j' + 0) [d] from .cons h (.nil n))
  | _, _, _, _, .cons h0 a, k, j', d, h => by
    rw [Nat.add_assoc]
    exact .cons h0 (GtAll.snoc a h)
mutual
theorem Gt.imm {ms : List MRow} : ∀ {k : List Nat} {n j : Nat} {d : PyData}, Gt ms k n j d → Thr.imm d = true
  | _, _, _, _, .mk (ds := ds) _ _ _ h => by
    show (true && (true && (immAll ds && true))) = true
    rw [GtAll.imm h]
    rfl
theorem GtAll.imm {ms : List MRow} : ∀ {ks : List (List Nat)} {n j : Nat} {ds : List PyData}, GtAll ms ks n j ds → immAll ds = true
  | _, _, _, _, .nil _ => rfl
  | _, _, _, _, .cons (d := d) (ds := ds) h a => by
    show (Thr.imm d && immAll ds) = true
    rw [Gt.imm h, GtAll.imm a]
    rfl
end
mutual
theorem Gt.deeper {ms : List MRow} : ∀ {k : List Nat} {n j : Nat} {d : PyData}, Gt ms k n j d → Gt ms k (n + 1) j d
  | _, _, _, _, .mk hm h0 h1 h => .mk hm h0 h1 (GtAll.deeper h)
theorem GtAll.deeper {ms : List MRow} : ∀ {ks : List (List Nat)} {n j : Nat} {ds : List PyData}, GtAll ms ks n j ds → GtAll ms ks (n + 1) j ds
  | _, _, _, _, .nil n => .nil (n + 1)
  | _, _, _, _, .cons h a => .cons (Gt.deeper h) (GtAll.deeper a)
end
/-! how far down a draw may go -/
def lessS (S : List Nat → Option Nat) (n : Nat) (k : List Nat) : Bool := match S k with
  | some m => decide (m < n)
  | none => false
def rk (S : List Nat → Option Nat) (names : List (List Nat)) (n : Nat) : Nat := (names.filter (lessS S n)).length
theorem lessS_iff {S : List Nat → Option Nat} {n : Nat} {k : List Nat} : lessS S n k = true ↔ ∃ m, S k = some m ∧ m < n := by
  unfold lessS
  cases S k with
  | none => exact ⟨fun h => (by cases h), fun ⟨m, h, _⟩ => (by cases h)⟩
  | some m => exact ⟨fun h => ⟨m, rfl, of_decide_eq_true h⟩, fun ⟨m', e, h⟩ => by cases e; exact decide_eq_true h⟩
theorem rk_lt {S : List Nat → Option Nat} {names : List (List Nat)} {k : List Nat} {m n : Nat} (hk : k ∈ names) (e : S k = some m) (h : m < n) : rk S names m < rk S names n := by
  unfold rk
  refine filter_lt (fun x hx => ?_) hk (lessS_iff.mpr ⟨m, e, h⟩) ?_
  · obtain ⟨j, h1, h2⟩ := lessS_iff.mp hx
    exact lessS_iff.mpr ⟨j, h1, by omega⟩
  · cases c : lessS S m k with
    | false => rfl
    | true =>
      obtain ⟨j, h1, h2⟩ := lessS_iff.mp c
      rw [e] at h1
      cases h1
      omega
theorem rk_le {S : List Nat → Option Nat} {names : List (List Nat)} {k : List Nat} {n : Nat} (hk : k ∈ names) (e : S k = some n) : rk S names n < names.length := by
  have := filter_lt (l := names) (p := lessS S n) (q := fun _ => true) (fun _ _ => rfl) hk rfl (by
    cases c : lessS S n k with
    | false => rfl
    | true =>
      obtain ⟨j, h1, h2⟩ := lessS_iff.mp c
      rw [e] at h1
      cases h1
      omega)
  rw [show names.filter (fun _ => true) = names from List.filter_eq_self.mpr (fun _ _ => rfl)] at this
  exact this
def fuel (S : List Nat → Option Nat) (names : List (List Nat)) (deep : Int) (n : Nat) : Nat := if 0 < deep then deep.toNat + 3 else rk S names n
/-- a part of a row of the least size, or of any row where the draw may go down -/
theorem fuel_part {S : List Nat → Option Nat} {names : List (List Nat)} {deep : Int} {n m : Nat} {p : List Nat} (h4 : names.length ≤ 4) (hp : p ∈ names) (e : S p = some m) (h : m < n ∨ 0 < deep) : fuel S names (deep - 1) m < fuel S names deep n := by
  unfold fuel
  have r3 := rk_le hp e
  by_cases hd : 0 < deep
  · rw [if_pos hd]
    split <;> omega
  · rw [if_neg hd, if_neg (by omega)]
    exact rk_lt hp e (h.elim id fun z => absurd z hd)
abbrev s__law_grown : Stmt := top 65
abbrev N__law_grown : List Str := ["_law_box", "_law_g", "_law_sizes_here", "_law_kind", "_law_room", "_law_deep", "_law_some", "_law_parts", "_law_row", "_law_size", "_law_left", "_law_at", "_law_part", "_law_more"]
abbrev P__law_grown : List Str := ["_law_box", "_law_g", "_law_sizes_here", "_law_kind", "_law_room", "_law_deep"]
theorem sc__law_grown : FnScope N__law_grown P__law_grown (defScope s__law_grown) := ⟨rfl, rfl, rfl, by decide +kernel, rfl, by decide +kernel, by decide +kernel⟩
structure Gw (mg : Str → Option Value) : Prop where
  all : mg "all" = none
  sum : mg "sum" = none
  max : mg "max" = none
  len : mg "len" = none
  enumerate : mg "enumerate" = none
  tuple : mg "tuple" = none
def spGrown (K : PySem.W.Frag) (n : Nat) : Sp := fun vs H Q _ => ∃ (a gd dz : Addr) (rs : List SRow) (ms : List MRow) (ru : List RRow) (roof : Nat) (skv : List (Key × V)) (S : List Nat → Option Nat) (kind : List Nat) (nk room : Nat) (deep : Int) (m : Nat) (b : List V), vs = [.ref a, .ref gd, .ref dz, .str (SX.S kind), .int ((room : Nat) : Int), .int deep] ∧
  GramIn K H a gd rs ms ru roof ∧ GramOk rs ms ru roof ∧ SzAt H dz skv S (rs.map SRow.nm) ∧ SzOk ms S ∧ S kind = some nk ∧ fuel S (rs.map SRow.nm) deep nk < n ∧ room ≤ 1000 ∧ H a = some (.lst b) ∧ BoxL m b ∧ m + 9 * max room nk < 900000 ∧
  ∀ (H' : Hp) (v : V) (d : PyData) (k : Nat) (b' : List V), But a H H' → H' a = some (.lst b') → BoxL (m + 9 * max room nk) b' → Dp K H' v d → Gt ms kind n k d → k ≤ max room nk → Q v H'
/-- a row that may be taken -/
def Opt (K : PySem.W.Frag) (X : Hp) (S : List Nat → Option Nat) (ms : List MRow) (kind : List Nat) (nk room : Nat) (deep : Int) (v : V) : Prop := ∃ (q : Addr) (rowv : V) (mr : MRow), v = .ref q ∧ SqT K X q [rowv, .int ((max room (1 + sumS S mr.pt) - (1 + sumS S mr.pt) : Nat) : Int)] ∧ Dp K X rowv mr.d ∧ mr ∈ ms ∧ mr.so = kind ∧ allIn S mr.pt = true ∧ (1 + sumS S mr.pt = nk ∨ (1 + sumS S mr.pt ≤ room ∧ 0 < deep))
theorem Opt.keep {K : PySem.W.Frag} {X Y : Hp} {S : List Nat → Option Nat} {ms : List MRow} {kind : List Nat} {nk room : Nat} {deep : Int} {v : V} (k : KeepT X Y) (h : Opt K X S ms kind nk room deep v) : Opt K Y S ms kind nk room deep v := by
  obtain ⟨q, rowv, mr, h1, h2, h3, h4⟩ := h
  exact ⟨q, rowv, mr, h1, k.seqT h2, dp_imm k h3 mr.imm, h4⟩
theorem ifs_or_and {t1 t2 t3 : TT} {A B : TS} {D : Ends} {σ : L2.St} {H : Hp} {c1 c2 c3 : Bool} (h1 : ∀ Q : Bool → Hp → Prop, (∀ c, c = c1 → Q c H) → t1 σ H Q) (h2 : ∀ Q : Bool → Hp → Prop, (∀ c, c = c2 → Q c H) → t2 σ H Q) (h3 : ∀ Q : Bool → Hp → Prop, (∀ c, c = c3 → Q c H) → t3 σ H Q)
    (hA : (c1 || (c2 && c3)) = true → A D σ H) (hB : (c1 || (c2 && c3)) = false → B D σ H) : tIfS (tOr t1 (tAnd t2 t3)) A B D σ H := by
  refine h1 _ ?_
  intro c hc
  rw [hc]
  cases c1 with
  | true => exact iteT (iteT (hA rfl))
  | false =>
    show t2 σ H _
    refine h2 _ ?_
    intro c hc
    rw [hc]
    cases c2 with
    | false => exact hB rfl
    | true =>
      show t3 σ H _
      refine h3 _ ?_
      intro c hc
      rw [hc]
      cases c3 with
      | true => exact iteT (hA rfl)
      | false => exact hB rfl
theorem rep_mem {α : Type} {x v : α} {k : Nat} (h : v ∈ (List.replicate k [x]).flatten) : v = x := by
  obtain ⟨l, h1, h2⟩ := List.mem_flatten.mp h
  rw [List.eq_of_mem_replicate h1] at h2
  exact List.mem_singleton.mp h2
theorem rep_len {α : Type} {x : α} {k : Nat} : (List.replicate k [x]).flatten.length = k := by simp
theorem max_cast (i j : Nat) : (if ((j : Nat) : Int) > ((i : Nat) : Int) then ((j : Nat) : Int) else ((i : Nat) : Int)) = ((max i j : Nat) : Int) := by
  split <;> omega
theorem GtAll.len {ms : List MRow} : ∀ {ks : List (List Nat)} {n j : Nat} {ds : List PyData}, GtAll ms ks n j ds → ds.length = ks.length
  | _, _, _, _, .nil _ => rfl
  | _, _, _, _, .cons _ a => by rw [List.length_cons, List.length_cons, GtAll.len a]
section
variable {P : Program} {w : World} {K : PySem.W.Frag} {mg : Str → Option Value} {base : Heap}
theorem ok_grown (T : Gw mg) (c_law_take : C8.Cal P w K mg base 1 "_law_take" spTake []) (c_law_one_of : C8.Cal P w K mg base 2 "_law_one_of" (spOneOf K) []) (c_law_number : C8.Cal P w K mg base 2 "_law_number" spNumber [])
    (D : Dd K mg "_law_grown" s__law_grown P__law_grown) (n : Nat) (c_law_grown : C8.Cal P w K mg base (n + 3) "_law_grown" (spGrown K n) []) : C8.Cal P w K mg base (n + 4) "_law_grown" (spGrown K (n + 1)) [] := by
  refine D.cal sc__law_grown (fun vs H Q E h => ?_) (fun f cdv A outer s H vs Q E hr h => ?_)
  · obtain ⟨a, gd, dz, rs, ms, ru, roof, skv, S, kind, nk, room, deep, m, b, rfl, _⟩ := h
    rfl
  · obtain ⟨a, gd, dz, rs, ms, ru, roof, skv, S, kind, nk, room, deep, m, b, rfl, gi, go, sz, szo, hnk, hfu, hroom, ha, hB, hm, q⟩ := h
    refine ⟨_, (C8.pss_cut (ps_par rfl sc__law_grown.nd (i := 6) (j := 7) rfl rfl (by decide) rfl rfl (pa_cons (pe_lst pa_nil) (pa_cons (pe_lst pa_nil) pa_nil)) (by rfl))
        (C8.pss_cut (ps_for PassesOwn.never rfl (pi_list (pe_dget (hu_of hr) (pv 1) pe_str (fun _ _ => rfl))) (pg_name (i := 8) sc__law_grown.nd rfl (Or.inl rfl))
          (pss_one (ps_if (PW.pt (pw_and (pt_cmpR op_eq (pe_ix (r := rIxT K) ix_tup (pv 8) pe_int (fun _ _ => rfl)) (pv 3) (nomark _)) (pw_and1 (pt_val (pe_callB (cr_all rfl) (by rfl) T.all (by decide +kernel) (pa_cons (pe_lc (own := [("_law_part", 12)]) (by exact rfl) sc__law_grown.nd (pi_tup (pe_ix (r := rIxT K) ix_tup (pv 8) pe_int (fun _ _ => rfl))) (blkOk_by (own := [("_law_part", 12)]) (N := N__law_grown) (sc := defScope s__law_grown) (by decide +kernel)) (fun _ _ _ _ _ => (pg_name (i := 12) sc__law_grown.nd rfl (Or.inl rfl))) (fun _ _ _ _ _ => pts_nil) (fun _ _ _ _ _ => (pe_cmp (pc_din (hu_of hr) (pv 12) (pv 2)) (by with_unfolding_all rfl)))) pa_nil))))))
          (pss_cons (ps_set (i := 9) sc__law_grown.nd rfl (Or.inl rfl) (pe_op op_add pe_int (pe_callB (cr_sum rfl) (by rfl) T.sum (by decide +kernel) (pa_cons (pe_lc (own := [("_law_part", 12)]) (by exact rfl) sc__law_grown.nd (pi_tup (pe_ix (r := rIxT K) ix_tup (pv 8) pe_int (fun _ _ => rfl))) (blkOk_by (own := [("_law_part", 12)]) (N := N__law_grown) (sc := defScope s__law_grown) (by decide +kernel)) (fun _ _ _ _ _ => (pg_name (i := 12) sc__law_grown.nd rfl (Or.inl rfl))) (fun _ _ _ _ _ => pts_nil) (fun _ _ _ _ _ => (pe_dget (hu_of hr) (pv 2) (pv 12) (fun _ _ => rfl)))) pa_nil))))
        (pss_one (ps_if (PW.pt (pw_or (pt_cmpR op_eq (pv 9) (pe_dget (hu_of hr) (pv 2) (pv 3) (fun _ _ => rfl)) (nomark _)) (pw_or1 (PW.pt (pw_and (pt_cmpR op_le (pv 9) (pv 4) (nomark _)) (pw_and1 (pt_cmpR op_gt (pv 5) pe_int (nomark _))))))))
          (pss_one (ps_set (i := 6) sc__law_grown.nd rfl (Or.inl rfl) (pe_op op_cat (pv 6) (pe_op op_rep (pe_lst (pa_cons (pe_tup (pa_cons (pv 8) (pa_cons (pe_op op_sub (pe_callB (call_max2 rfl) (by rfl) T.max (by decide +kernel) (pa_cons (pv 4) (pa_cons (pv 9) pa_nil))) (pv 9)) pa_nil))) pa_nil)) (pe_op op_add pe_int (pe_callB call_len_seq (by rfl) T.len PySem.boot_len (pa_cons (pe_ix (r := rIxT K) ix_tup (pv 8) pe_int (fun _ _ => rfl)) pa_nil)))))))
          pss_nil)))
          pss_nil)))
        (C8.pss_cut (ps_asg (C8.pe_c c_law_one_of hr (by omega) (by rfl) (pa_cons (pv 0) (pa_cons (pv 6) pa_nil))) (pg_tup rfl (pgs_cons (pg_name (i := 8) sc__law_grown.nd rfl (Or.inl rfl)) (pgs_cons (pg_name (i := 10) sc__law_grown.nd rfl (Or.inl rfl)) pgs_nil))))
        (C8.pss_cut (ps_for PassesOwn.never rfl (pi_enumT (by rfl) T.enumerate (pa_cons (pe_ix (r := rIxT K) ix_tup (pv 8) pe_int (fun _ _ => rfl)) pa_nil)) (pg_tup rfl (pgs_cons (pg_name (i := 11) sc__law_grown.nd rfl (Or.inl rfl)) (pgs_cons (pg_name (i := 12) sc__law_grown.nd rfl (Or.inl rfl)) pgs_nil)))
          (C8.pss_cut (ps_set (i := 13) sc__law_grown.nd rfl (Or.inl rfl) (pe_ifExp (pt_cmpR op_eq (pe_op op_add (pv 11) pe_int) (pe_callB call_len_seq (by rfl) T.len PySem.boot_len (pa_cons (pe_ix (r := rIxT K) ix_tup (pv 8) pe_int (fun _ _ => rfl)) pa_nil)) (nomark _)) (pv 10) (C8.pe_c c_law_take hr (by omega) (by rfl) (pa_cons (pv 0) (pa_cons (pe_op op_add (pv 10) pe_int) pa_nil)))))
        (C8.pss_cut (ps_set (i := 10) sc__law_grown.nd rfl (Or.inl rfl) (pe_op op_sub (pv 10) (pv 13)))
        (pss_one (ps_expr (pe_bm PySem.F.plainAttrs_list PySem.F.slot_list_append PySem.F.type_list_append mt_append (pv 7) (pa_cons (C8.pe_c c_law_grown hr (by omega) (by rfl) (pa_cons (pv 0) (pa_cons (pv 1) (pa_cons (pv 2) (pa_cons (pv 12) (pa_cons (pe_op op_add (pe_dget (hu_of hr) (pv 2) (pv 12) (fun _ _ => rfl)) (pv 13)) (pa_cons (pe_op op_sub (pv 5) pe_int) pa_nil))))))) pa_nil)))))))
        (pss_one (ps_ret (pe_tup (pa_cons (pe_ix (r := rIxT K) ix_tup (pv 8) pe_int (fun _ _ => rfl)) (pa_cons (pe_ix ix_list (pe_lst (pa_cons pe_int (pa_cons pe_int (pa_cons (C8.pe_c c_law_number hr (by omega) (by rfl) (pa_cons (pv 0) pa_nil)) pa_nil)))) (C8.pe_c c_law_take hr (by omega) (by rfl) (pa_cons (pv 0) (pa_cons pe_int pa_nil))) (fun _ _ => rfl)) (pa_cons (pe_callTy call_tuple_of (by rfl) T.tuple (by decide +kernel) (pa_cons (pv 7) pa_nil)) pa_nil)))))))))), ?_⟩
    -- two lists
    refine ⟨fun σ X => ∃ l6 l7, σ = [some (.ref a), some (.ref gd), some (.ref dz), some (.str (SX.S kind)), some (.int ((room : Nat) : Int)), some (.int deep), some (.ref l6), some (.ref l7), none, none, none, none, none, none] ∧ Same H X ∧ X l6 = some (.lst []) ∧ X l7 = some (.lst []) ∧ H l7 = none ∧ l7 ≠ a ∧ l6 ≠ a, ?_, ?_⟩
    · refine ⟨by show 0 ≤ sizeLine; decide, fun l6 n6 => ⟨by show 0 ≤ sizeLine; decide, fun l7 n7 => ⟨_, _, rfl, l6, l7, rfl, (same_upd n6).trans (same_upd n7), same_upd n7 _ _ upd_same, upd_same, (same_upd n6).free n7, fun z => ?_, fun z => ?_⟩⟩⟩
      · rw [z, same_upd n6 _ _ ha] at n7
        cases n7
      · rw [z, ha] at n6
        cases n6
    rintro σ X0 ⟨l60, l7, rfl, s0, hl60, hl70, n7, n7a, n60a⟩
    obtain ⟨ls, lm, lr, of, gkv, gs, gby⟩ := gi.ex
    obtain ⟨mv, hlm, hmv⟩ := gs.hlm
    have lmv := dpAll_len hmv
    rw [List.length_map] at lmv
    have hm8 := go.m8
    -- the rows that may be taken
    refine ⟨fun σ X => ∃ (y8 y9 y12 : Option V) (l6 : Addr) (ov : List V), σ = [some (.ref a), some (.ref gd), some (.ref dz), some (.str (SX.S kind)), some (.int ((room : Nat) : Int)), some (.int deep), some (.ref l6), some (.ref l7), y8, y9, none, none, y12, none] ∧ Same X0 X ∧ X l6 = some (.lst ov) ∧ l6 ≠ a ∧ ov ≠ [] ∧ ov.length ≤ 24 ∧ ∀ v ∈ ov, Opt K X S ms kind nk room deep v, ?_, ?_⟩
    · refine ⟨_, rfl, gd, .ref lm, rfl, by have h := DGet.k (k := Sum.inr "makings") (s0 _ _ gs.hgd); rw [gs.mak] at h; exact h, lm, rfl, ⟨_, SqL.of (s0 _ _ hlm)⟩, for_list (K := K) (a := lm) (xs := mv) (fun j σ X => ∃ (y8 y9 y12 : Option V) (l6 : Addr) (ov : List V), σ = [some (.ref a), some (.ref gd), some (.ref dz), some (.str (SX.S kind)), some (.int ((room : Nat) : Int)), some (.int deep), some (.ref l6), some (.ref l7), y8, y9, none, none, y12, none] ∧ Same X0 X ∧ X l6 = some (.lst ov) ∧ l6 ≠ a ∧ ov.length ≤ 3 * j ∧ (∀ v ∈ ov, Opt K X S ms kind nk room deep v) ∧ (∀ mr ∈ ms.take j, mr.so = kind → allIn S mr.pt = true → nk = 1 + sumS S mr.pt → ov ≠ []))
        ⟨none, none, none, l60, [], rfl, Same.refl _, hl60, n60a, Nat.le_refl _, (fun v h => nomatch h), (fun mr h => nomatch h)⟩ (fun j σ X _ ⟨_, _, _, _, _, _, h, _⟩ => SqL.of (h _ _ (s0 _ _ hlm))) ?_ ?_⟩
      · rintro j x σ X hx ⟨y8, y9, y12, l6, ov, rfl, sX, hl6, n6a, hol, hopt, hbest⟩
        obtain ⟨dd, hdd, hxd⟩ := dpAll_at hmv hx
        rw [List.getElem?_map] at hdd
        obtain ⟨mr, hmr, rfl⟩ : ∃ mr, ms[j]? = some mr ∧ dd = mr.d := by
          cases h : ms[j]? with
          | none => rw [h] at hdd; cases hdd
          | some e => rw [h] at hdd; exact ⟨e, rfl, (Option.some.inj hdd).symm⟩
        have hj : j < ms.length := (List.getElem?_eq_some_iff.mp hmr).1
        have hmm := List.mem_of_getElem? hmr
        have tk : ms.take (j + 1) = ms.take j ++ [mr] := by rw [List.take_add_one, hmr]; rfl
        have mok := go.ok mr hmm
        have p2 := mok.p2
        have s0X := s0.trans sX
        have hxX := dp_same s0X hxd
        obtain ⟨q0, t, rfl, hq, ht⟩ := m_at hxX
        have szX := sz.same s0X
        have skip : ∀ {Z : Hp}, Same X Z → (mr.so = kind → allIn S mr.pt = true → nk = 1 + sumS S mr.pt → False) → ∀ (z9 z12 : Option V), ∃ (y8 y9 y12 : Option V) (l6' : Addr) (ov : List V), [some (.ref a), some (.ref gd), some (.ref dz), some (.str (SX.S kind)), some (.int ((room : Nat) : Int)), some (.int deep), some (.ref l6), some (.ref l7), some (.ref q0), z9, none, none, z12, none] = [some (.ref a), some (.ref gd), some (.ref dz), some (.str (SX.S kind)), some (.int ((room : Nat) : Int)), some (.int deep), some (.ref l6'), some (.ref l7), y8, y9, none, none, y12, none] ∧ Same X0 Z ∧ Z l6' = some (.lst ov) ∧ l6' ≠ a ∧ ov.length ≤ 3 * (j + 1) ∧ (∀ v ∈ ov, Opt K Z S ms kind nk room deep v) ∧ (∀ mr ∈ ms.take (j + 1), mr.so = kind → allIn S mr.pt = true → nk = 1 + sumS S mr.pt → ov ≠ []) := fun {Z} sZ hno z9 z12 =>
          ⟨_, _, _, l6, ov, rfl, sX.trans sZ, sZ _ _ hl6, n6a, by omega, fun v hv => (hopt v hv).keep (KeepT.of sZ), fun mr' h' e1 e2 e3 => by
            rw [tk] at h'
            rcases List.mem_append.mp h' with h' | h'
            · exact hbest mr' h' e1 e2 e3
            · rw [List.mem_singleton.mp h'] at e1 e2 e3
              exact (hno e1 e2 e3).elim⟩
        refine ⟨_, rfl, q0, _, 1, .str (SX.S mr.so), rfl, rfl, hq, atI_nat (j := 1) rfl, _, rfl, rfl, _, rfl, ?_⟩
        by_cases hk : mr.so = kind
        · refine ifT (decide_eq_true (by rw [hk])) ?_
          refine ⟨_, rfl, q0, _, 2, .ref t, rfl, rfl, hq, atI_nat (j := 2) rfl, t, rfl, ⟨_, ht⟩, fun D nD => ?_⟩
          refine lc_tup (K := K) (a := t) (xs := nmV mr.pt) (fun i U => Same X U ∧ U D = some (.lst ((mr.pt.take i).map fun p => V.bl (S p).isSome))) ⟨same_upd nD, upd_same⟩ (fun i U _ h => Same.seqT h.1 ht) ?_ ?_
          · rintro i v U hv ⟨sU, hD⟩
            obtain ⟨p, hp, rfl⟩ := nmV_get hv
            have hi : i < mr.pt.length := (List.getElem?_eq_some_iff.mp hp).1
            refine ⟨rfl, yesT ?_⟩
            refine ⟨_, rfl, _, rfl, dz, _, rfl, DGet.k (k := kS p) (sU _ _ szX.d), _, hD, small1000 (by rw [List.length_map, List.length_take]; omega), Same.at_ sU nD, ?_⟩
            rw [sz.v p, List.take_add_one, hp, List.map_append]
            rw [show ((S p).map fun n => V.int ((n : Nat) : Int)).isSome = (S p).isSome by cases S p <;> rfl]
            exact upd_same
          · rintro U ⟨sU, hD⟩
            rw [nmV_len, List.take_length] at hD
            refine ⟨D, mr.pt.map fun p => (S p).isSome, rfl, SqL.of (by rw [List.map_map]; exact hD), _, rfl, ?_⟩
            rw [all_cast]
            cases hall : allIn S mr.pt with
            | false => exact skip sU (fun _ e => by rw [hall] at e; cases e) _ _
            | true =>
              have ht2 := Same.seqT sU ht
              have hq2 := Same.seqT sU hq
              have szU := szX.same sU
              refine ⟨_, rfl, q0, _, 2, .ref t, rfl, rfl, hq2, atI_nat (j := 2) rfl, t, rfl, ⟨_, ht2⟩, fun D2 nD2 => ?_⟩
              refine lc_tup (K := K) (a := t) (xs := nmV mr.pt) (fun i W => Same U W ∧ W D2 = some (.lst ((mr.pt.take i).map fun p => V.int (((S p).getD 0 : Nat) : Int)))) ⟨same_upd nD2, upd_same⟩ (fun i W _ h => Same.seqT h.1 ht2) ?_ ?_
              · rintro i v W hv ⟨sW, hD2⟩
                obtain ⟨p, hp, rfl⟩ := nmV_get hv
                have hi : i < mr.pt.length := (List.getElem?_eq_some_iff.mp hp).1
                obtain ⟨n', hn'⟩ : ∃ n', S p = some n' := by
                  have := List.all_eq_true.mp hall p (List.mem_of_getElem? hp)
                  cases e : S p with
                  | none => rw [e] at this; cases this
                  | some n' => exact ⟨n', rfl⟩
                refine ⟨rfl, yesT ?_⟩
                refine ⟨_, rfl, _, rfl, dz, .int ((n' : Nat) : Int), rfl, by have h := DGet.k (k := kS p) (sW _ _ szU.d); rw [sz.v p, hn'] at h; exact h, _, hD2, small1000 (by rw [List.length_map, List.length_take]; omega), Same.at_ sW nD2, ?_⟩
                rw [List.take_add_one, hp, List.map_append]
                show _ = some (HO.lst (_ ++ [V.int (((S p).getD 0 : Nat) : Int)]))
                rw [hn']
                exact upd_same
              · rintro W ⟨sW, hD2⟩
                rw [nmV_len, List.take_length] at hD2
                refine ⟨D2, mr.pt.map fun p => (((S p).getD 0 : Nat) : Int), rfl, SqL.of (by rw [List.map_map]; exact hD2), _, _, rfl, rfl, ?_⟩
                rw [sum_cast]
                have szW := szU.same sW
                have sXW := sU.trans sW
                have esz : (fun i j => V.int (i + j)) (1 : Int) (((mr.pt.map fun p => (S p).getD 0).sum : Nat) : Int) = V.int ((1 + sumS S mr.pt : Nat) : Int) := by
                  show V.int (1 + _) = V.int _
                  congr 1
                rw [esz]
                simp only [gName]
                refine ifs_or_and (c1 := decide (1 + sumS S mr.pt = nk)) (c2 := decide (1 + sumS S mr.pt ≤ room)) (c3 := decide (0 < deep)) (fun Q hQ => ?_) (fun Q hQ => ?_) (fun Q hQ => ?_) (fun hc => ?_) (fun hc => ?_)
                · refine ⟨_, rfl, _, rfl, _, rfl, dz, .int ((nk : Nat) : Int), rfl, by have h := DGet.k (k := kS kind) szW.d; rw [sz.v kind, hnk] at h; exact h, rfl, _, rfl, hQ _ ?_⟩
                  rw [decide_eq_decide]
                  exact ⟨fun z => by have := V.int.inj z; omega, fun z => by rw [z]⟩
                · refine ⟨_, rfl, _, rfl, _, _, rfl, rfl, _, rfl, hQ _ ?_⟩
                  rw [decide_eq_decide]
                  omega
                · exact ⟨_, rfl, _, _, rfl, rfl, _, rfl, hQ _ rfl⟩
                · have hcond : 1 + sumS S mr.pt = nk ∨ (1 + sumS S mr.pt ≤ room ∧ 0 < deep) := by
                    rcases Bool.or_eq_true_iff.mp hc with h | h
                    · exact .inl (of_decide_eq_true h)
                    · obtain ⟨h1, h2⟩ := Bool.and_eq_true_iff.mp h
                      exact .inr ⟨of_decide_eq_true h1, of_decide_eq_true h2⟩
                  have hqW := Same.seqT sXW hq
                  have htW := Same.seqT sXW ht
                  refine ⟨_, rfl, _, rfl, _, rfl, _, rfl, _, _, rfl, _, rfl, _, _, rfl, rfl, by show 2 ≤ sizeLine; decide, fun p3 n3 => ⟨by show 1 ≤ sizeLine; decide, fun l4 n4 => ?_⟩⟩
                  have elf : (fun i j => V.int (i - j)) (if ((1 + sumS S mr.pt : Nat) : Int) > ((room : Nat) : Int) then ((1 + sumS S mr.pt : Nat) : Int) else ((room : Nat) : Int)) ((1 + sumS S mr.pt : Nat) : Int) = V.int ((max room (1 + sumS S mr.pt) - (1 + sumS S mr.pt) : Nat) : Int) := by
                    rw [max_cast]
                    show V.int (_ - _) = V.int _
                    congr 1
                    omega
                  rw [elf] at n4 ⊢
                  have s3 := same_upd (o := .tup [.ref q0, .int ((max room (1 + sumS S mr.pt) - (1 + sumS S mr.pt) : Nat) : Int)]) n3
                  have s4 := same_upd (o := .lst [.ref p3]) n4
                  refine ⟨_, rfl, q0, _, 2, .ref t, rfl, rfl, Same.seqT (s3.trans s4) hqW, atI_nat (j := 2) rfl, t, nmV mr.pt, rfl, .inr (Same.seqT (s3.trans s4) htW), _, _, rfl, rfl, l4, _, [.ref p3], rfl, rfl, upd_same, by omega, by rw [nmV_len]; omega, ?_, fun p5 n5 => ?_⟩
                  · refine Nat.le_trans (show _ ≤ 100 from ?_) (by decide)
                    rw [nmV_len]
                    show 1 * _ ≤ 100
                    omega
                  have s5 := same_upd (o := .lst (List.replicate (Int.toNat (1 + (((nmV mr.pt).length : Nat) : Int))) [.ref p3]).flatten) n5
                  have sA := (sXW.trans (s3.trans s4)).trans s5
                  refine ⟨l6, p5, ov, _, rfl, rfl, sA _ _ hl6, upd_same, ?_, fun p6 n6 => ?_⟩
                  · refine Nat.le_trans (show _ ≤ 1000 from ?_) (by decide)
                    rw [rep_len, nmV_len]
                    omega
                  have s6 := same_upd (o := .lst (ov ++ (List.replicate (Int.toNat (1 + (((nmV mr.pt).length : Nat) : Int))) [.ref p3]).flatten)) n6
                  have sB := sA.trans s6
                  refine ⟨_, _, _, p6, ov ++ (List.replicate (Int.toNat (1 + (((nmV mr.pt).length : Nat) : Int))) [.ref p3]).flatten, rfl, sX.trans sB, upd_same, fun z => ?_, ?_, fun v hv => ?_, fun mr' _ _ _ _ z => ?_⟩
                  · rw [z, sA _ _ (s0X _ _ ha)] at n6
                    cases n6
                  · rw [List.length_append, rep_len, nmV_len]
                    omega
                  · rcases List.mem_append.mp hv with h | h
                    · exact (hopt v h).keep (KeepT.of sB)
                    · rw [rep_mem h]
                      exact ⟨p3, .ref q0, mr, rfl, SqT.of ((s4.trans (s5.trans s6)) _ _ upd_same), dp_same sB hxX, hmm, hk, hall, hcond⟩
                  · have := congrArg List.length z
                    rw [List.length_append, rep_len, nmV_len, List.length_nil] at this
                    omega
                · refine skip sXW (fun _ _ e => ?_) _ _
                  rw [decide_eq_true e.symm] at hc
                  cases hc
        · refine ifF (decide_eq_false fun z => hk (SX.S_inj (V.str.inj z))) ?_
          exact skip (Same.refl X) (fun e => absurd e hk) _ _
      · rintro σ X ⟨y8, y9, y12, l6, ov, rfl, sX, hl6, n6a, hol, hopt, hbest⟩
        rw [lmv] at hol
        rw [lmv, List.take_length] at hbest
        obtain ⟨_, _, mr, h1, h2, h3, h4⟩ := szo.some kind nk hnk
        exact ⟨y8, y9, y12, l6, ov, rfl, sX, hl6, n6a, hbest mr h1 h2 h3 h4, by omega, hopt⟩
    rintro σ X1 ⟨y8, y9, y12, l6, ov, rfl, s1, hl6, n6a, hov, hol, hopt⟩
    have s01 := s0.trans s1
    -- one of them
    refine ⟨fun σ X => ∃ (rowv : V) (mr : MRow) (b1 : List V), σ = [some (.ref a), some (.ref gd), some (.ref dz), some (.str (SX.S kind)), some (.int ((room : Nat) : Int)), some (.int deep), some (.ref l6), some (.ref l7), some rowv, y9, some (.int ((max room (1 + sumS S mr.pt) - (1 + sumS S mr.pt) : Nat) : Int)), none, y12, none] ∧ But a H X ∧ X l7 = some (.lst []) ∧ Dp K X rowv mr.d ∧ mr ∈ ms ∧ mr.so = kind ∧ allIn S mr.pt = true ∧ (1 + sumS S mr.pt = nk ∨ (1 + sumS S mr.pt ≤ room ∧ 0 < deep)) ∧ X a = some (.lst b1) ∧ BoxL (m + 1) b1, ?_, ?_⟩
    · refine ⟨_, rfl, _, rfl, a, l6, m, b, ov, rfl, s01 _ _ ha, hB, by omega, SqL.of hl6, n6a, List.length_pos_iff.mpr hov, by omega, fun i v b1 hv hB1 => ?_⟩
      have bt : But a X1 (upd X1 a (.lst b1)) := But.upd (But.refl a X1)
      obtain ⟨q0, rowv, mr, rfl, h1, h2, h3, h4, h5, h6⟩ := (hopt v (List.mem_of_getElem? hv)).keep (KeepT.but (s01 _ _ ha) bt)
      exact ⟨q0, _, rfl, h1, rfl, _, _, rfl, _, _, rfl, rfl, rowv, mr, b1, rfl, (But.of s01).trans bt, bt _ _ n7a (s1 _ _ hl70), h2, h3, h4, h5, h6, upd_same, hB1⟩
    rintro σ X2 ⟨rowv, mr, b2, rfl, bt2, hl7, hrow, hmm, hso, hall, hcond, hb2, hB2⟩
    have mok := go.ok mr hmm
    have p2 := mok.p2
    have nk15 := (szo.some kind nk hnk).2.1
    have hM : max room (1 + sumS S mr.pt) ≤ max room nk := by
      rcases hcond with h | h <;> omega
    obtain ⟨q0, t, rfl, hq, ht⟩ := m_at hrow
    -- its parts
    refine ⟨fun σ Y => ∃ (y10 y11 y12 y13 : Option V) (pv b' : List V) (ds : List PyData) (k u : Nat), σ = [some (.ref a), some (.ref gd), some (.ref dz), some (.str (SX.S kind)), some (.int ((room : Nat) : Int)), some (.int deep), some (.ref l6), some (.ref l7), some (.ref q0), y9, y10, y11, y12, y13] ∧ But a H Y ∧ Dp K Y (.ref q0) mr.d ∧ Y l7 = some (.lst pv) ∧ DpAll K Y pv ds ∧ GtAll ms mr.pt n k ds ∧ k ≤ u ∧ u + 1 ≤ max room (1 + sumS S mr.pt) ∧ Y a = some (.lst b') ∧ BoxL (m + 3 + 9 * u) b', ?_, ?_⟩
    · refine ⟨_, rfl, q0, _, 2, .ref t, rfl, rfl, hq, atI_nat (j := 2) rfl, t, nmV mr.pt, rfl, ht, ?_⟩
      refine for_it walk_enumT (fun j σ Y => ∃ (y11 y12 y13 : Option V) (pv b' : List V) (ds : List PyData) (k u left : Nat), σ = [some (.ref a), some (.ref gd), some (.ref dz), some (.str (SX.S kind)), some (.int ((room : Nat) : Int)), some (.int deep), some (.ref l6), some (.ref l7), some (.ref q0), y9, some (.int ((left : Nat) : Int)), y11, y12, y13] ∧ But a H Y ∧ Dp K Y (.ref q0) mr.d ∧ SqT K Y t (nmV mr.pt) ∧ Y l7 = some (.lst pv) ∧ DpAll K Y pv ds ∧ GtAll ms (mr.pt.take j) n k ds ∧ k ≤ u ∧ u + left + sumS S (mr.pt.drop j) + 1 = max room (1 + sumS S mr.pt) ∧ Y a = some (.lst b') ∧ BoxL (m + 1 + j + 9 * u) b')
        ⟨none, y12, none, [], b2, [], 0, 0, max room (1 + sumS S mr.pt) - (1 + sumS S mr.pt), rfl, bt2, hrow, ht, hl7, .nil, .nil n, Nat.le_refl _, ?_, hb2, hB2⟩ (fun i σ Y _ ⟨_, _, _, _, _, _, _, _, _, _, _, _, h, _⟩ => h) ?_ ?_
      · rw [List.drop_zero]
        omega
      · rintro j v σ Y0 Yz hj ⟨y11, y12', y13, pv, b', ds, k, u, left, rfl, bt, hrowY, htY, hl7Y, hpv, hgt, hku, hu, hb', hB'⟩ ⟨TT, xx, yy, rfl, nT, rfl, ex, ey⟩
        cases ex
        rw [nmV_len] at hj
        obtain ⟨p, hp, rfl⟩ := nmV_get (show (nmV mr.pt)[j]? = some yy from ey)
        obtain ⟨np, hnp⟩ : ∃ np, S p = some np := by
          have := List.all_eq_true.mp hall p (List.mem_of_getElem? hp)
          cases e : S p with
          | none => rw [e] at this; cases this
          | some n' => exact ⟨n', rfl⟩
        have epj : mr.pt[j] = p := by
          rw [List.getElem?_eq_getElem hj] at hp
          exact Option.some.inj hp
        have hdr : sumS S (mr.pt.drop j) = np + sumS S (mr.pt.drop (j + 1)) := by
          rw [List.drop_eq_getElem_cons hj, epj]
          unfold sumS
          rw [List.map_cons, List.sum_cons, hnp]
          rfl
        have hpsum : np ≤ sumS S mr.pt := by
          have := List.take_append_drop j mr.pt
          have e2 : sumS S mr.pt = sumS S (mr.pt.take j) + sumS S (mr.pt.drop j) := by
            unfold sumS
            rw [← List.sum_append, ← List.map_append, this]
          omega
        have hpn : p ∈ rs.map SRow.nm := by
          obtain ⟨r, hr', er⟩ := mok.so p (List.mem_cons_of_mem _ (List.mem_of_getElem? hp))
          exact List.mem_map.mpr ⟨r, hr', er⟩
        have hf := fuel_part (deep := deep) (n := nk) (by rw [List.length_map]; exact go.so.le) hpn hnp (by
          rcases hcond with h | h
          · exact .inl (by omega)
          · exact .inr h.2)
        have sT := same_upd (o := .tup [.int ((j : Nat) : Int), .str (SX.S p)]) nT
        have btY := bt.trans (But.of (a := a) sT)
        have hbY := sT _ _ hb'
        have htY2 := Same.seqT sT htY
        have hrowY2 := dp_same sT hrowY
        have hl7Y2 := sT _ _ hl7Y
        have hpv2 := dpAll_same sT hpv
        have hTT : SqT K (upd Y0 TT (.tup [.int ((j : Nat) : Int), .str (SX.S p)])) TT [.int ((j : Nat) : Int), .str (SX.S p)] := SqT.of upd_same
        obtain ⟨Y, eY⟩ : ∃ Y, Y = upd Y0 TT (.tup [.int ((j : Nat) : Int), .str (SX.S p)]) := ⟨_, rfl⟩
        rw [← eY] at btY hbY htY2 hrowY2 hl7Y2 hpv2 hTT ⊢
        obtain ⟨q1, t1, e1, hqY, ht1⟩ := m_at hrowY2
        cases e1
        refine ⟨TT, _, rfl, hTT, rfl, _, _, rfl, _, _, rfl, rfl, ?_⟩
        -- how much more
        refine ⟨fun σ Z => ∃ (more : Nat) (b4 : List V), σ = [some (.ref a), some (.ref gd), some (.ref dz), some (.str (SX.S kind)), some (.int ((room : Nat) : Int)), some (.int deep), some (.ref l6), some (.ref l7), some (.ref q0), y9, some (.int ((left : Nat) : Int)), some (.int ((j : Nat) : Int)), some (.str (SX.S p)), some (.int ((more : Nat) : Int))] ∧ more ≤ left ∧ But a Y Z ∧ Z a = some (.lst b4) ∧ BoxL (m + 1 + j + 9 * u + 1) b4, ?_, ?_⟩
        · refine ⟨_, rfl, _, _, rfl, rfl, _, rfl, q0, _, 2, .ref t1, rfl, rfl, hqY, atI_nat (j := 2) rfl, t1, nmV mr.pt, rfl, .inr ht1, rfl, _, rfl, ?_⟩
          by_cases hc : V.int (((j : Nat) : Int) + 1) = V.int (((nmV mr.pt).length : Nat) : Int)
          · exact ifT (decide_eq_true hc) ⟨_, rfl, left, b', rfl, Nat.le_refl _, But.refl a Y, hbY, hB'.mono (by omega)⟩
          · refine ifF (decide_eq_false hc) ⟨_, rfl, _, rfl, _, _, rfl, rfl, a, _, _, b', rfl, hbY, hB', by omega, by omega, by omega, fun r b4 r0 r1 hB4 => ?_⟩
            obtain ⟨more, rfl⟩ := Int.eq_ofNat_of_zero_le r0
            exact ⟨more, b4, rfl, by omega, But.upd (But.refl a Y), upd_same, hB4⟩
        rintro σ Z ⟨more, b4, rfl, hml, btZ, hb4, hB4⟩
        have elm : V.int (((left : Nat) : Int) - ((more : Nat) : Int)) = V.int ((left - more : Nat) : Int) := by
          congr 1
          omega
        refine ⟨fun σ Z' => σ = [some (.ref a), some (.ref gd), some (.ref dz), some (.str (SX.S kind)), some (.int ((room : Nat) : Int)), some (.int deep), some (.ref l6), some (.ref l7), some (.ref q0), y9, some (.int ((left - more : Nat) : Int)), some (.int ((j : Nat) : Int)), some (.str (SX.S p)), some (.int ((more : Nat) : Int))] ∧ Z' = Z, ?_, ?_⟩
        · exact ⟨_, rfl, _, rfl, _, _, rfl, rfl, by rw [← elm]; rfl, rfl⟩
        rintro σ Z' ⟨rfl, rfl⟩
        have btHZ := btY.trans btZ
        have hl7Z := btZ _ _ n7a hl7Y2
        have szZ := sz.but ha btHZ
        have lpv := dpAll_len hpv
        have lds : pv.length ≤ 2 := by
          rw [lpv, hgt.len, List.length_take]
          omega
        refine ⟨_, rfl, .inl ⟨rfl, _, SqL.of hl7Z⟩, ?_⟩
        refine ⟨_, rfl, _, rfl, _, rfl, _, rfl, _, rfl, _, rfl, dz, .int ((np : Nat) : Int), rfl, by have h := DGet.k (k := kS p) szZ.d; rw [sz.v p, hnp] at h; exact h, _, rfl, _, _, rfl, rfl, _, rfl, _, _, rfl, rfl, a, gd, dz, rs, ms, ru, roof, skv, S, p, np, np + more, deep - 1, _, b4, rfl, gi.go ha btHZ, go, szZ, szo, hnp, by omega, by omega, hb4, hB4, by omega, fun Z5 v d k' b5 bt5 hb5 hB5 hd hg hk' => ?_⟩
        have hl75 := bt5 _ _ n7a hl7Z
        have k5 : KeepT Y Z5 := KeepT.but hbY (btZ.trans bt5)
        have kk : KeepT Z5 (upd Z5 l7 (.lst (pv ++ [v]))) := KeepT.at_ hl75 lst_no
        refine ⟨l7, pv, v, rfl, rfl, hl75, small1000 (by omega), _, _, _, pv ++ [v], b5, ds ++ [d], k + k', u + (np + more), left - more, rfl, fun c o nc hc => ?_, dp_imm (k5.trans kk) hrowY2 mr.imm, (k5.trans kk).seqT htY2, upd_same, dpAll_appI (dpAll_imm (k5.trans kk) hpv2 hgt.imm) (.cons (dp_imm kk hd hg.imm) .nil), ?_, by omega, by omega, by rw [upd_ne n7a.symm]; exact hb5, hB5.mono (by omega)⟩
        · rw [upd_ne (ne_of_none hc n7)]
          exact (btHZ.trans bt5) c o nc hc
        · rw [List.take_add_one, hp]
          exact hgt.snoc hg
      · rintro σ Y ⟨y11, y12, y13, pv, b', ds, k, u, left, rfl, bt, hrowY, htY, hl7Y, hpv, hgt, hku, hu, hb', hB'⟩
        rw [nmV_len, List.take_length] at hgt
        rw [nmV_len] at hB' hu
        exact ⟨_, _, _, _, pv, b', ds, k, u, rfl, bt, hrowY, hl7Y, hpv, hgt, hku, by omega, hb', hB'.mono (by omega)⟩
    rintro σ Y ⟨y10, y11, y12, y13, pv, b3, ds, k, u, rfl, btY, hrowY, hl7Y, hpv, hgt, hku, hu, hb3, hB3⟩
    -- the node
    obtain ⟨q0', t', e', hqY, _⟩ := m_at hrowY
    cases e'
    refine ⟨_, rfl, q0, _, 0, .str (SX.S mr.nm), rfl, rfl, hqY, atI_nat (j := 0) rfl, ?_⟩
    refine ⟨_, rfl, a, _, b3, rfl, hb3, hB3, by omega, fun Y4 r b4 bt4 hb4 hB4 r0 r1 => ⟨by show 3 ≤ sizeLine; decide, fun l5 n5 => ?_⟩⟩
    have s5 := same_upd (o := .lst [.int 0, .int 0, .int r]) n5
    have n5a : l5 ≠ a := fun z => by
      rw [z, hb4] at n5
      cases n5
    refine ⟨_, rfl, a, 3, _, b4, rfl, s5 _ _ hb4, hB4, by omega, by decide, by decide, fun r4 b5 r40 r41 hB5 => ?_⟩
    have bt5 : But a Y (upd (upd Y4 l5 (.lst [.int 0, .int 0, .int r])) a (.lst b5)) := (bt4.trans (But.of s5)).trans (But.upd (But.refl a _))
    have hb5 : (upd (upd Y4 l5 (.lst [.int 0, .int 0, .int r])) a (.lst b5)) a = some (.lst b5) := upd_same
    have hl5 : (upd (upd Y4 l5 (.lst [.int 0, .int 0, .int r])) a (.lst b5)) l5 = some (.lst [.int 0, .int 0, .int r]) := by
      rw [upd_ne n5a]
      exact upd_same
    obtain ⟨Y5, e5⟩ : ∃ Y5, Y5 = upd (upd Y4 l5 (.lst [.int 0, .int 0, .int r])) a (.lst b5) := ⟨_, rfl⟩
    rw [← e5] at bt5 hb5 hl5 ⊢
    obtain ⟨oi, o0, o1, hat⟩ : ∃ oi : Int, 0 ≤ oi ∧ oi < 1000000 ∧ atI [V.int 0, .int 0, .int r] r4 = some (.int oi) := by
      have hc : r4 = 0 ∨ r4 = 1 ∨ r4 = 2 := by omega
      rcases hc with rfl | rfl | rfl
      · exact ⟨0, by decide, by decide, atI_nat (j := 0) rfl⟩
      · exact ⟨0, by decide, by decide, atI_nat (j := 1) rfl⟩
      · exact ⟨r, r0, r1, atI_nat (j := 2) rfl⟩
    refine ⟨l5, _, _, _, rfl, rfl, SqL.of hl5, hat, _, rfl, l7, pv, rfl, .inl ⟨SqL.of (bt5 _ _ n7a hl7Y), fun l8 n8 => ⟨by show 3 ≤ sizeLine; decide, fun l9 n9 => ?_⟩⟩⟩
    have s8 := same_upd (o := .tup pv) n8
    have s9 := same_upd (o := .tup [.str (SX.S mr.nm), .int oi, .ref l8]) n9
    have hpv5 := dpAll_imm ((KeepT.but hb3 bt5).trans (KeepT.of s8)) hpv hgt.imm
    refine q _ _ _ (k + 1) b5 ((btY.trans bt5).trans (But.of (s8.trans s9))) ((s8.trans s9) _ _ hb5) (hB5.mono (by omega)) (.tup (SqT.of upd_same) (.cons (.str _) (.cons (.int _) (.cons (dp_same s9 (.tup (SqT.of upd_same) hpv5)) .nil)))) ?_ (by omega)
    rw [← hso]
    exact .mk hmm o0 o1 hgt
theorem ok_growns (T : Gw mg) (c_law_take : C8.Cal P w K mg base 1 "_law_take" spTake []) (c_law_one_of : C8.Cal P w K mg base 2 "_law_one_of" (spOneOf K) []) (c_law_number : C8.Cal P w K mg base 2 "_law_number" spNumber [])
    (D : Dd K mg "_law_grown" s__law_grown P__law_grown) : ∀ n, C8.Cal P w K mg base (n + 3) "_law_grown" (spGrown K n) []
  | 0 => by
    refine D.cal sc__law_grown (fun vs H Q E h => ?_) (fun f cdv A outer s H vs Q E hr h => ?_)
    · obtain ⟨a, gd, dz, rs, ms, ru, roof, skv, S, kind, nk, room, deep, m, b, rfl, _⟩ := h
      rfl
    · obtain ⟨a, gd, dz, rs, ms, ru, roof, skv, S, kind, nk, room, deep, m, b, rfl, gi, go, sz, szo, hnk, hfu, _⟩ := h
      exact absurd hfu (Nat.not_lt_zero _)
  | n + 1 => ok_grown T c_law_take c_law_one_of c_law_number D n (ok_growns T c_law_take c_law_one_of c_law_number D n)
end
/-! ### a dict and the empty dict -/
def rEqE : R2 := fun x y H Q => ∃ a b ks, x = .ref a ∧ y = .ref b ∧ H a = some (.dK ks) ∧ H b = some (.dK []) ∧ Q (.bl (decide (ks.length = 0))) H
theorem op_eqE {X : Cx} (hu : X.A.units < cLine) : OpR X (compareOp .Eq) rEqE := by
  intro pins s σ H x y v u Q I rx ry h
  obtain ⟨a, b, ks, rfl, rfl, ea, eb, q⟩ := h
  by_cases h0 : ks.length = 0
  · have e0 : ks = [] := List.length_eq_zero_iff.mp h0
    subst e0
    exact op_eq_dictA hu pins s σ H _ _ v u Q I rx ry ⟨a, b, [], [], rfl, rfl, ea, eb, rfl, (fun p h => nomatch h), q⟩
  · obtain rfl : v = Value.ref a := rx
    obtain rfl : u = Value.ref b := ry
    obtain ⟨_, ya, va, ra, da⟩ := (show ObjOk X.prog X.w H s.heap a (.dK ks) from I.hok a _ ea)
    obtain ⟨_, yb, vb, rb, db⟩ := (show ObjOk X.prog X.w H s.heap b (.dK []) from I.hok b _ eb)
    have hl : va.length = ks.length := ra.length.symm
    have hl2 : vb.length = 0 := rb.length.symm
    exact PySem.W.keq_eq (knd := mixKind X.prog X.w) (r := true) ya yb da db hu (fun e => absurd e (by omega)) (fin_bl I q (by simp [hl, hl2, h0]))
abbrev s__law_tree_of : Stmt := top 66
abbrev N__law_tree_of : List Str := ["_law_box", "_law_g", "_law_most", "_law_sizes_here"]
abbrev P__law_tree_of : List Str := ["_law_box", "_law_g", "_law_most"]
theorem sc__law_tree_of : FnScope N__law_tree_of P__law_tree_of (defScope s__law_tree_of) := ⟨rfl, rfl, rfl, by decide +kernel, rfl, by decide +kernel, by decide +kernel⟩
structure To (mg : Str → Option Value) : Prop where
  sorted : mg "sorted" = none
def spTreeOf (K : PySem.W.Frag) : Sp := fun vs H Q _ => ∃ (a gd : Addr) (rs : List SRow) (ms : List MRow) (ru : List RRow) (roof most m : Nat) (b : List V), vs = [.ref a, .ref gd, .int ((most : Nat) : Int)] ∧ GramIn K H a gd rs ms ru roof ∧ GramOk rs ms ru roof ∧ 1 ≤ most ∧ most ≤ 1000 ∧ H a = some (.lst b) ∧ BoxL m b ∧ m + 10000 < 900000 ∧
  ∀ (H' : Hp) (v : V) (b' : List V), But a H H' → H' a = some (.lst b') → BoxL (m + 10000) b' → (v = .non ∨ ∃ d k kind, Dp K H' v d ∧ Gt ms kind 28 k d ∧ k ≤ most + 15) → Q v H'
theorem SzAt.has {Y : Hp} {dz : Addr} {kvs : List (Key × V)} {S : List Nat → Option Nat} {names : List (List Nat)} (h : SzAt Y dz kvs S names) {w : List Nat} (hw : kS w ∈ kvs.map (·.1)) : ∃ n, S w = some n := by
  have e := valV_any (kS w) kvs
  have : (kvs.any fun kv => decide (kv.1 = kS w)) = true := by
    obtain ⟨x, hx, ex⟩ := List.mem_map.mp hw
    exact List.any_eq_true.mpr ⟨x, hx, decide_eq_true ex⟩
  rw [this, h.v w] at e
  cases c : S w with
  | none => rw [c] at e; cases e
  | some n => exact ⟨n, rfl⟩
section
variable {P : Program} {w : World} {K : PySem.W.Frag} {mg : Str → Option Value} {base : Heap}
theorem ok_tree_of (T : To mg) (c_law_take : C8.Cal P w K mg base 1 "_law_take" spTake []) (c_law_one_of : C8.Cal P w K mg base 2 "_law_one_of" (spOneOf K) []) (c_law_sizes : C8.Cal P w K mg base 2 "_law_sizes" (spSizes K) []) (c_law_grown : C8.Cal P w K mg base 31 "_law_grown" (spGrown K 28) [])
    (D : Dd K mg "_law_tree_of" s__law_tree_of P__law_tree_of) : C8.Cal P w K mg base 32 "_law_tree_of" (spTreeOf K) [] := by
  refine D.cal sc__law_tree_of (fun vs H Q E h => ?_) (fun f cdv A outer s H vs Q E hr h => ?_)
  · obtain ⟨a, gd, rs, ms, ru, roof, most, m, b, rfl, _⟩ := h
    rfl
  · obtain ⟨a, gd, rs, ms, ru, roof, most, m, b, rfl, gi, go, hm1, hm2, ha, hB, hm, q⟩ := h
    refine ⟨_, (pss_cons (ps_set (i := 3) sc__law_tree_of.nd rfl (Or.inl rfl) (C8.pe_c c_law_sizes hr (by decide) (by rfl) (pa_cons (pv 1) pa_nil)))
        (pss_cons (ps_if (pt_cmpR (op_eqE (Nat.lt_of_le_of_lt (Nat.le_add_right _ 65) (hu65 hr))) (pv 3) pe_dnewK (nomark _))
          (pss_one (ps_ret pe_non))
          pss_nil)
        (pss_one (ps_ret (C8.pe_c c_law_grown hr (by decide) (by rfl) (pa_cons (pv 0) (pa_cons (pv 1) (pa_cons (pv 3) (pa_cons (C8.pe_c c_law_one_of hr (by decide) (by rfl) (pa_cons (pv 0) (pa_cons (pe_callB (call_sortedD rfl) (by rfl) T.sorted (by decide +kernel) (pa_cons (pv 3) pa_nil)) pa_nil))) (pa_cons (pe_op op_add pe_int (C8.pe_c c_law_take hr (by decide) (by rfl) (pa_cons (pv 0) (pa_cons (pv 2) pa_nil)))) (pa_cons pe_int pa_nil))))))))))), ?_⟩
    refine ⟨_, rfl, a, gd, rs, ms, ru, roof, rfl, gi, go, fun X dz skv S sX nz sz szo => ?_⟩
    refine ⟨_, rfl, fun p np => ⟨dz, p, skv, rfl, rfl, same_upd np _ _ sz.d, upd_same, _, rfl, ?_⟩⟩
    have s1 := sX.trans (same_upd (o := .dK []) np)
    have sz1 := sz.same (same_upd (o := .dK []) np)
    have hb1 := s1 _ _ ha
    have bt1 := But.of (a := a) s1
    obtain ⟨X1, e1⟩ : ∃ X1, X1 = upd X p (.dK []) := ⟨_, rfl⟩
    rw [← e1] at s1 sz1 hb1 bt1 ⊢
    by_cases h0 : skv.length = 0
    · exact ifT (decide_eq_true h0) (q X1 .non b bt1 hb1 (hB.mono (by omega)) (.inl rfl))
    · refine ifF (decide_eq_false h0) ?_
      obtain ⟨ws, k1, k2, k3⟩ := sz1.ks
      have lw : ws.length = skv.length := by
        have := congrArg List.length k1
        rw [List.length_map, List.length_map] at this
        omega
      have lw4 : ws.length ≤ 4 := by
        have h4 := go.so.le
        have := List.Nodup.length_le_of_subset k2 (l₂ := rs.map SRow.nm) k3
        rw [List.length_map] at this
        omega
      refine ⟨_, rfl, _, rfl, _, rfl, _, rfl, _, rfl, dz, skv, ws.map SX.S, rfl, Rd.of sz1.d, by rw [k1, List.map_map]; rfl, by rw [List.length_map]; omega, fun ys p2 hperm _ np2 => ?_⟩
      have s2 := same_upd (o := .lst (ys.map V.str)) np2
      have ly : ys.length = skv.length := by rw [hperm.length_eq, List.length_map, lw]
      refine ⟨a, p2, m, b, ys.map V.str, rfl, s2 _ _ hb1, hB, by omega, SqL.of upd_same, fun z => ?_, by rw [List.length_map]; omega, by rw [List.length_map]; omega, fun i v b2 hv hB2 => ?_⟩
      · rw [z, hb1] at np2
        cases np2
      rw [List.getElem?_map] at hv
      obtain ⟨y, hy, rfl⟩ : ∃ y, ys[i]? = some y ∧ v = .str y := by
        cases e : ys[i]? with
        | none => rw [e] at hv; cases hv
        | some y => rw [e] at hv; exact ⟨y, rfl, (Option.some.inj hv).symm⟩
      obtain ⟨kind, hkw, rfl⟩ := List.mem_map.mp (hperm.mem_iff.mp (List.mem_of_getElem? hy))
      obtain ⟨nk, hnk⟩ := sz1.has (w := kind) (by rw [k1]; exact List.mem_map_of_mem hkw)
      have bt2 := (bt1.trans (But.of (a := a) s2)).trans (But.upd (o := .lst b2) (But.refl a _))
      refine ⟨_, rfl, _, rfl, a, _, _, b2, rfl, upd_same, hB2, by omega, by omega, by omega, fun r b3 r0 r1 hB3 => ?_⟩
      obtain ⟨rn, rfl⟩ := Int.eq_ofNat_of_zero_le r0
      have bt3 := bt2.trans (But.upd (o := .lst b3) (But.refl a _))
      have nk15 := (szo.some kind nk hnk).2.1
      have hfu : fuel S (rs.map SRow.nm) 24 nk < 28 := by
        unfold fuel
        rw [if_pos (by decide)]
        decide
      refine ⟨_, _, rfl, rfl, a, gd, dz, rs, ms, ru, roof, skv, S, kind, nk, 1 + rn, 24, _, b3, rfl, gi.go ha bt3, go, sz1.but hb1 ((But.of (a := a) s2).trans ((But.upd (But.refl a _)).trans (But.upd (But.refl a _)))), szo, hnk, hfu, by omega, upd_same, hB3, by omega, fun H' v d k b' bt hb' hB' hd hg hk => ?_⟩
      exact q H' v b' (bt3.trans bt) hb' (hB'.mono (by omega)) (.inr ⟨d, k, kind, hd, hg, by omega⟩)
end
/-! ### dicts whose keys are tuples with tuples in them, followed -/
abbrev NE : Type := NestedKey × Addr × V
abbrev KN : List NE → List (NestedKey × Addr × Value) → Prop := Paired fun p q => p.1 = q.1 ∧ p.2.1 = q.2.1 ∧ RelV p.2.2 q.2.2
def dnRaw (P : Program) (w : World) (a : Addr) (kvs : List NE) (h : Heap) : Prop := kvs.length ≤ sizeLine ∧ (a == sysModules) = false ∧
  ∃ (xs : List (NestedKey × Addr × Value)) (o : Obj) (es : Array DictEntry) (ep : Nat), KN kvs xs ∧ h.get? a = some o ∧ o.ExactDict ∧ o.data = .dict es ep ∧ es.toList = xs.map (entryOfKey (nestedKind P w)) ∧ (xs.map (·.1)).Nodup
def dnO (P : Program) (w : World) (a : Addr) (kvs : List NE) : HO := .ext (dnRaw P w a kvs)
theorem dnO_ok {P : Program} {w : World} {H : Hp} {h : Heap} {a : Addr} {kvs : List NE} (x : dnRaw P w a kvs h) : ObjOk P w H h a (dnO P w a kvs) := by
  refine ⟨x, ?_, fun g1 g2 y k => ?_⟩
  · obtain ⟨_, _, xs, o, es, ep, _, e, _⟩ := x
    exact ⟨o, e⟩
  · obtain ⟨z1, z2, xs, o, es, ep, z3, e, z4⟩ := y
    exact ⟨z1, z2, xs, o, es, ep, z3, k _ e, z4⟩
/-- there, or locked -/
def DnA (P : Program) (w : World) (H : Hp) (a : Addr) (kvs : List NE) : Prop := H a = some (dnO P w a kvs) ∨ ∃ o, H a = some (.frz o (dnO P w a kvs))
/-- its keys stand -/
def KeysN (K : PySem.W.Frag) (H : Hp) (kvs : List NE) : Prop := ∀ p ∈ kvs, ∃ d, p.1 = keyD d ∧ Dp K H (.ref p.2.1) d ∧ imm d = true ∧ (keyD d).depth ≤ 8
theorem KeysN.keep {K : PySem.W.Frag} {H H' : Hp} {kvs : List NE} (h : KeysN K H kvs) (k : KeepT H H') : KeysN K H' kvs := fun p hp => by
  obtain ⟨d, h1, h2, h3, h4⟩ := h p hp
  exact ⟨d, h1, dp_imm k h2 h3, h3, h4⟩
theorem KeysN.nil {K : PySem.W.Frag} {H : Hp} : KeysN K H [] := fun p hp => nomatch hp
def valN : List NE → NestedKey → Option V
  | [], _ => none
  | p :: r, k => if p.1 = k then some p.2.2 else valN r k
theorem valN_app {xs ys : List NE} {k : NestedKey} : valN (xs ++ ys) k = match valN xs k with
    | some v => some v
    | none => valN ys k := by
  induction xs with
  | nil => rfl
  | cons p r ih =>
    show (if p.1 = k then some p.2.2 else valN (r ++ ys) k) = match (if p.1 = k then some p.2.2 else valN r k) with
      | some v => some v
      | none => valN ys k
    by_cases h : p.1 = k
    · rw [if_pos h, if_pos h]
    · rw [if_neg h, if_neg h, ih]
theorem KN.val {kvs : List NE} {xs : List (NestedKey × Addr × Value)} (r : KN kvs xs) (k : NestedKey) : (valN kvs k = none ∧ atKey xs k = none) ∨ ∃ v p, valN kvs k = some v ∧ atKey xs k = some p ∧ RelV v p.2 := by
  induction r with
  | nil => exact .inl ⟨rfl, rfl⟩
  | @cons p q ps qs h t ih =>
    by_cases e : p.1 = k
    · refine .inr ⟨p.2.2, q.2, if_pos e, ?_, h.2.2⟩
      show ((q :: qs).find? fun x => decide (x.1 = k)).map (·.2) = some q.2
      rw [List.find?_cons_of_pos (by rw [← h.1]; exact decide_eq_true e)]
      rfl
    · have e1 : valN (p :: ps) k = valN ps k := if_neg e
      have e2 : atKey (q :: qs) k = atKey qs k := by
        show ((q :: qs).find? fun x => decide (x.1 = k)).map (·.2) = _
        rw [List.find?_cons_of_neg (by rw [← h.1]; simpa using e)]
        rfl
      rw [e1, e2]
      exact ih
theorem KN.len {kvs : List NE} {xs : List (NestedKey × Addr × Value)} (r : KN kvs xs) : kvs.length = xs.length := Paired.length r
theorem KN.at_ {kvs : List NE} {xs : List (NestedKey × Addr × Value)} (r : KN kvs xs) : ∀ {i : Nat} {p : NE}, kvs[i]? = some p → ∃ q, xs[i]? = some q ∧ p.1 = q.1 ∧ p.2.1 = q.2.1 ∧ RelV p.2.2 q.2.2 := by
  induction r with
  | nil => intro i p e; simp at e
  | @cons p q ps qs h t ih =>
    intro i p' e
    cases i with
    | zero => cases e; exact ⟨q, rfl, h⟩
    | succ i =>
      obtain ⟨q', e1, e2⟩ := ih (i := i) (p := p') (by simpa using e)
      exact ⟨q', by simpa using e1, e2⟩
theorem KN.is {K : PySem.W.Frag} {X : Cx} {pins : List (Addr × Obj)} {σ : L2.St} {H : Hp} {s : Shared} (I : Inv X pins σ H s) {kvs : List NE} {xs : List (NestedKey × Addr × Value)} (r : KN kvs xs) (ks : KeysN X.K H kvs) : ∀ x ∈ xs, (nestedKind X.prog X.w).is s.heap x.1 x.2.1 := by
  induction r with
  | nil => intro x hx; exact nomatch hx
  | @cons p q ps qs h t ih =>
    intro x hx
    rcases List.mem_cons.mp hx with e | hx
    · subst e
      obtain ⟨d, h1, h2, h3, h4⟩ := ks p (List.mem_cons_self ..)
      rw [← h.1, ← h.2.1, h1]
      exact ⟨nst I h2 h3 rfl, h4⟩
    · exact ih (fun p' hp' => ks p' (List.mem_cons_of_mem _ hp')) x hx
section
variable {X : Cx} {pins : List (Addr × Obj)} {σ : L2.St} {H : Hp} {s : Shared} {a : Addr} {kvs : List NE}
theorem dn_raw (I : Inv X pins σ H s) (e : DnA X.prog X.w H a kvs) : dnRaw X.prog X.w a kvs s.heap := by
  rcases e with e | ⟨o, e⟩
  · exact (show ObjOk X.prog X.w H s.heap a (dnO X.prog X.w a kvs) from I.hok a _ e).1
  · have x : s.heap.get? a = some o ∧ ObjOk X.prog X.w H s.heap a (dnO X.prog X.w a kvs) := I.hok a _ e
    exact (show ObjOk X.prog X.w H s.heap a (dnO X.prog X.w a kvs) from x.2).1
theorem dn_of (I : Inv X pins σ H s) (e : DnA X.prog X.w H a kvs) (ks : KeysN X.K H kvs) : kvs.length ≤ sizeLine ∧ (a == sysModules) = false ∧ ∃ xs, KN kvs xs ∧ s.heap.DictOfH (nestedKind X.prog X.w) a xs := by
  obtain ⟨z1, z2, xs, o, es, ep, r, h1, h2, h3, h4, h5⟩ := dn_raw I e
  exact ⟨z1, z2, xs, r, o, es, ep, h1, h2, h3, h4, KN.is (K := X.K) I r ks, h5⟩
end
/-- a new empty one -/
def tDNewN (P : Program) (w : World) : TE := fun _ H Q => ∀ p, H p = none → Q (.ref p) (upd H p (dnO P w p []))
theorem pe_dnewN {X : Cx} {pos : Pos} : PE X (.Dict [] [] pos) (tDNewN X.prog X.w) := ⟨fun pins s σ H Q I h => by
  refine wpAny_Dict_empty ⟨.ref s.heap.objs.size, _, I.laid (a := s.heap.objs.size) (o := dnO X.prog X.w s.heap.objs.size []) (t' := s.toks) (fun _ _ q => Heap.get?_push_of_some _ q) (Nat.le_refl _) (dnO_ok ?_), rfl, h _ (I.hok.fresh (Nat.le_refl _))⟩
  exact ⟨Nat.zero_le _, beq_eq_false_iff_ne.mpr (Ne.symm (Nat.ne_of_lt I.big)), [], _, #[], 0, .nil, Heap.get?_push_size _ rfl, ⟨rfl, rfl, rfl⟩, rfl, rfl, List.nodup_nil⟩⟩
section
variable {X : Cx}
/-- a key: a tuple that stands -/
def KeyN (K : PySem.W.Frag) (H : Hp) (y : V) (b : Addr) (d : PyData) : Prop := y = .ref b ∧ Dp K H (.ref b) d ∧ imm d = true ∧ (keyD d).depth ≤ 8
def rInN (K : PySem.W.Frag) (P : Program) (w : World) : R2 := fun y x H Q => ∃ (a b : Addr) (kvs : List NE) (d : PyData), x = .ref a ∧ DnA P w H a kvs ∧ KeysN K H kvs ∧ KeyN K H y b d ∧ Q (.bl (valN kvs (keyD d)).isSome) H
theorem op_inN (hu : X.A.units + 9 < cLine) : OpR X (compareOp .In) (rInN X.K X.prog X.w) := by
  intro pins s σ H y x v u Q I ry rx h
  obtain ⟨a, b, kvs, d, rfl, hd, hk, ⟨rfl, h1, h2, h3⟩, q⟩ := h
  obtain rfl : v = Value.ref b := ry
  obtain rfl : u = Value.ref a := rx
  obtain ⟨_, z, xs, r, dd⟩ := dn_of I hd hk
  refine wpAny_in_heap (knd := nestedKind X.prog X.w) (k := keyD d) (by show X.A.in1.units + 8 < cLine; show X.A.units + 1 + 8 < cLine; omega) ⟨nst I h1 h2 rfl, h3⟩ z dd ⟨.bl _, H, I.tok _, ?_, q⟩
  rcases r.val (keyD d) with ⟨e1, e2⟩ | ⟨v, p, e1, e2, _⟩
  · rw [e1, e2]
    rfl
  · rw [e1, e2]
    rfl
def rIxN (K : PySem.W.Frag) (P : Program) (w : World) : R2 := fun x y H Q => ∃ (a b : Addr) (kvs : List NE) (d : PyData) (v : V), x = .ref a ∧ DnA P w H a kvs ∧ KeysN K H kvs ∧ KeyN K H y b d ∧ valN kvs (keyD d) = some v ∧ Q v H
theorem get_dn (hu : X.A.units + 9 < cLine) {pins : List (Addr × Obj)} {σ : L2.St} {H : Hp} {s : Shared} {a b : Addr} {kvs : List NE} {d : PyData} {v : V} {Q : VK} (I : Inv X pins σ H s) (hd : DnA X.prog X.w H a kvs) (hk : KeysN X.K H kvs) (h1 : Dp X.K H (.ref b) d) (h2 : imm d = true) (h3 : (keyD d).depth ≤ 8) (hv : valN kvs (keyD d) = some v) (q : Q v H) :
    wpAny (model X.prog X.w) X.A (getItem (.ref a) (.ref b)) (EP X pins σ Q) X.xe s := by
  obtain ⟨_, z, xs, r, dd⟩ := dn_of I hd hk
  rcases r.val (keyD d) with ⟨e1, _⟩ | ⟨v', p, e1, e2, rv⟩
  · rw [hv] at e1
    cases e1
  · rw [hv] at e1
    cases e1
    exact wpAny_getItem_heap (knd := nestedKind X.prog X.w) (k := keyD d) (by show X.A.units + 1 + 8 < cLine; omega) ⟨nst I h1 h2 rfl, h3⟩ dd e2 ⟨v, H, I.tok _, rv, q⟩
/-- d[k] = v for a key that isn't there yet -/
def rSetN (K : PySem.W.Frag) (P : Program) (w : World) : TSet := fun x y v H Q => ∃ (a b : Addr) (kvs : List NE) (d : PyData), x = .ref a ∧ H a = some (dnO P w a kvs) ∧ KeysN K H kvs ∧ KeyN K H y b d ∧ valN kvs (keyD d) = none ∧ kvs.length < 10000 ∧ Q (upd H a (dnO P w a (kvs ++ [(keyD d, b, v)])))
theorem set_dn (hu : X.A.units + 9 < cLine) : PSet X (rSetN X.K X.prog X.w) := by
  intro pins s σ H x y v xv yv u Q I rx ry rv h
  obtain ⟨a, b, kvs, d, rfl, hd, hk, ⟨rfl, h1, h2, h3⟩, hv, hl, q⟩ := h
  obtain rfl : xv = Value.ref a := rx
  obtain rfl : yv = Value.ref b := ry
  obtain ⟨z0, z, xs, r, dd⟩ := dn_of I (.inl hd) hk
  have hn : atKey xs (keyD d) = none := by
    rcases r.val (keyD d) with ⟨_, e2⟩ | ⟨v', p, e1, e2, _⟩
    · exact e2
    · rw [hv] at e1
      cases e1
  refine wpAny_setItem_heap (knd := nestedKind X.prog X.w) (k := keyD d) (hsz := by rw [← r.len]; exact z0) (by show X.A.units + 1 + 8 < cLine; omega) ⟨nst I h1 h2 rfl, h3⟩ dd fun h' hm hs => ?_
  rw [storedH_new hn] at hm
  obtain ⟨o, es, ep, g1, g2, g3, g4, _, g6⟩ := hm
  refine ⟨_, d_write I (by rw [hd]; trivial) hs ⟨o, g1⟩ (dnO_ok ⟨?_, z, _, o, es, ep, ?_, g1, g2, g3, g4, g6⟩), q⟩
  · rw [List.length_append]
    exact Nat.le_trans (show kvs.length + 1 ≤ 10000 from hl) (by decide)
  · have app : ∀ {ps : List NE} {qs : List (NestedKey × Addr × Value)}, KN ps qs → KN (ps ++ [(keyD d, b, v)]) (qs ++ [(keyD d, b, u)]) := by
      intro ps qs r
      induction r with
      | nil => exact .cons ⟨rfl, rfl, rv⟩ .nil
      | cons h t ih => exact .cons h ih
    exact app r
/-- the length -/
def rLenN (P : Program) (w : World) : List V → Hp → VK → Prop := fun xs H Q => ∃ (a : Addr) (kvs : List NE), xs = [.ref a] ∧ DnA P w H a kvs ∧ Q (.int ((kvs.length : Nat) : Int)) H
end
section
variable {X : Cx} {o i : Expr} {pos : Pos} {td ty : TE}
/-- d[k], there -/
def tDGetN (K : PySem.W.Frag) (P : Program) (w : World) (td ty : TE) : TE := fun σ H Q => td σ H fun x H1 => ty σ H1 fun y H2 => rIxN K P w x y H2 Q
theorem pe_dgetN (hu : X.A.units + 9 < cLine) (ho : PE X o td) (hi : PE X i ty) (hs : NoSl i) : PE X (.Subscript o i pos) (tDGetN X.K X.prog X.w td ty) := by
  refine ⟨fun pn s σ H Q I h => ?_⟩
  refine subD_of PySem.F.slot_dict_getitem.lookup hs (thn (ho.run pn s σ H _ I h) fun u s1 ⟨x, H1, J1, ex1, q1⟩ => thn (hi.run pn s1 σ H1 _ J1 q1) fun iv s2 ⟨y, H2, J2, ry, a, b, kvs, d, v, ex, hd, hk, ⟨ey, h1, h2, h3⟩, hv, q2⟩ => ?_)
  subst ex ey
  obtain rfl : u = Value.ref a := ex1
  obtain rfl : iv = Value.ref b := ry
  obtain ⟨_, _, xs, _, dd⟩ := dn_of J2 hd hk
  exact ⟨dd.typeIs, get_dn hu J2 hd hk h1 h2 h3 hv q2⟩
theorem call_len_dN : CallR X (.builtin "len") (fun xs H Q => ∃ (a : Addr) (kvs : List NE), xs = [.ref a] ∧ DnA X.prog X.w H a kvs ∧ KeysN X.K H kvs ∧ Q (.int ((kvs.length : Nat) : Int)) H) := by
  intro pn s σ H xs us Q I r h
  obtain ⟨a, kvs, rfl, hd, hk, q⟩ := h
  obtain ⟨u, rfl, ex1⟩ := vals1 r
  obtain rfl : u = .ref a := ex1
  obtain ⟨z, y, ys, rel, dd⟩ := dn_of I hd hk
  have hl := rel.len
  refine call_len_dictH y dd (by rw [← hl]; rw [sizeLine_eq] at z; omega) ?_
  rw [← hl]
  exact ⟨.int ((kvs.length : Nat) : Int), H, I.tok _, ⟨_, rfl⟩, q⟩
/-- d.get(k) -/
theorem mt_getN (hu : X.A.units + 9 < cLine) : MtR X "dict.get" (fun x xs H Q => ∃ (a b : Addr) (kvs : List NE) (d : PyData) (y : V), x = .ref a ∧ xs = [y] ∧ DnA X.prog X.w H a kvs ∧ KeysN X.K H kvs ∧ KeyN X.K H y b d ∧ Q ((valN kvs (keyD d)).getD .non) H) := by
  intro pn s σ H x xs v us Q I ex1 rxs h
  obtain ⟨a, b, kvs, d, y, rfl, rfl, hd, hk, ⟨rfl, h1, h2, h3⟩, q⟩ := h
  obtain rfl : v = Value.ref a := ex1
  obtain ⟨u, rfl, ry⟩ := vals1 rxs
  obtain rfl : u = Value.ref b := ry
  obtain ⟨_, z, ys, r, dd⟩ := dn_of I hd hk
  refine call_meetsIn PySem.F.slot_dict_get dd.typeIs PySem.F.entry_dict_get (PySem.F.args_dict_get_2 _ _) (meetsH_dict_get (nestedKind X.prog X.w) a b z) ⟨by show X.A.units + 1 + 8 < cLine; omega, keyD d, ys, ⟨nst I h1 h2 rfl, h3⟩, dd, ?_⟩
  rcases r.val (keyD d) with ⟨e1, e2⟩ | ⟨v', p, e1, e2, rv⟩
  · rw [e1] at q
    rw [e2]
    exact ⟨.non, H, I.tok _, rfl, q⟩
  · rw [e1] at q
    rw [e2]
    exact ⟨v', H, I.tok _, rv, q⟩
end
/-! going through it -/
section
variable {X : Cx} {pn : List (Addr × Obj)} {σ : L2.St} {H : Hp} {s : Shared} {d : Addr} {o : Obj}
theorem frzN {kvs : List NE} (I : Inv X pn σ H s) (h : H d = some (.frz o (dnO X.prog X.w d kvs))) :
    (d == sysModules) = false ∧ s.heap.get? d = some o ∧ o.ExactDict ∧ ∃ (es : Array DictEntry) (ep : Nat), o.data = .dict es ep ∧ es.size = kvs.length ∧
      ∀ (i : Nat) (p : NE), kvs[i]? = some p → ∃ (en : DictEntry), es[i]? = some en ∧ en.key = .ref p.2.1 ∧ RelV p.2.2 en.val := by
  have x : s.heap.get? d = some o ∧ ObjOk X.prog X.w H s.heap d (dnO X.prog X.w d kvs) := I.hok d _ h
  obtain ⟨hd, ok⟩ := x
  obtain ⟨_, hs, xs, o', es, ep, r, ho, hx, dat, he, _⟩ := (show ObjOk X.prog X.w H s.heap d (dnO X.prog X.w d kvs) from ok).1
  rw [hd] at ho
  cases ho
  refine ⟨hs, hd, hx, es, ep, dat, ?_, fun i p e => ?_⟩
  · rw [size_of_entries he, r.len]
  · obtain ⟨q, e1, _, e3, e4⟩ := r.at_ e
    have z := entry_at he i
    rw [e1] at z
    refine ⟨_, z, ?_, e4⟩
    rw [e3]
    rfl
end
/-- the keys of the locked dict, each its own tuple -/
def ItkN (P : Program) (w : World) (d : Addr) (o : Obj) (kvs : List NE) : It :=
  ⟨fun i H => H d = some (.frz o (dnO P w d kvs)) ∧ i < kvs.length, fun i H x H' => H' = H ∧ ∃ p, kvs[i]? = some p ∧ x = .ref p.2.1, fun i H => H d = some (.frz o (dnO P w d kvs)) ∧ kvs.length ≤ i⟩
/-- the pairs: new tuples -/
def ItiN (P : Program) (w : World) (d : Addr) (o : Obj) (kvs : List NE) : It :=
  ⟨fun i H => H d = some (.frz o (dnO P w d kvs)) ∧ i < kvs.length, fun i H x H' => ∃ T p, kvs[i]? = some p ∧ x = .ref T ∧ H T = none ∧ H' = upd H T (.tup [.ref p.2.1, p.2.2]), fun i H => H d = some (.frz o (dnO P w d kvs)) ∧ kvs.length ≤ i⟩
section
variable {P : Program} {w : World} {K : PySem.W.Frag} {tgt : Expr} {d : Addr} {o : Obj} {es : Array DictEntry} {ep : Nat}
theorem one_it {it b : Addr} (h : b ∈ [it]) : b = it := by simpa using h
theorem turn_keysN {kvs : List NE} (it : Addr) (od0 : o.data = .dict es ep) : Turn P w K tgt (ItkN P w d o kvs) [it] it (fun i h => h.IsKeyIter it d i kvs.length ep) := by
  refine ⟨by simp, fun i h st b hb => ?_, fun i h h' st k => st.at fun io e => k it (by simp) io e, ?_, ?_, fun A i s Q E st h => ?_⟩
  · obtain rfl := one_it hb
    obtain ⟨io, e, c, dd⟩ := st
    exact ⟨io, e, fun v z => by rw [dd] at z; cases z⟩
  · intro X hP hw hK hc i pn s σ H E I fp st hg
    subst hP hw hK
    obtain ⟨hd, hi⟩ := hg
    obtain ⟨c0, c1, c2, c3, c4, c5⟩ := fp it (by simp)
    obtain ⟨hs, atd, hx, es', ep', dat, siz, ens⟩ := frzN I hd
    obtain ⟨rfl, rfl⟩ := dict_ep od0 dat
    obtain ⟨p, hp⟩ : ∃ p, kvs[i]? = some p := ⟨kvs[i], List.getElem?_eq_getElem hi⟩
    obtain ⟨en, hen, ky, _⟩ := ens i p hp
    refine next_key_item st atd dat siz hen fun h' st2 sb => ?_
    have J1 : Inv X pn σ H { s with heap := h' } := I.turned (t' := s.toks) (fun b ob hb e => (sb.2 b hb).trans e) c0 c1 c3 c4 c5
    obtain ⟨io, e, c, dd⟩ := id st2
    refine ⟨en.key, rfl, go_of (s := { s with heap := h' }) e c dd (by decide) ⟨.ref p.2.1, H, J1, ky, ⟨rfl, p, hp, rfl⟩, st2, fun b hb => (fp b hb).1⟩⟩
  · intro X hP hw hK hc i pn s σ H E I fp st hg
    subst hP hw hK
    obtain ⟨hd, hi⟩ := hg
    obtain ⟨c0, c1, c2, c3, c4, c5⟩ := fp it (by simp)
    obtain ⟨hs, atd, hx, es', ep', dat, siz, ens⟩ := frzN I hd
    obtain ⟨rfl, rfl⟩ := dict_ep od0 dat
    exact next_key_end (I.ok.hd hc) st atd dat siz hi fun h' eb => ⟨rfl, I.turned (t' := s.toks) (fun b ob hb e => eb b ob hb e) c0 c1 c3 c4 c5⟩
  · refine wpAny_pyIter_slot st.typeIs PySem.F.slot_dict_keyiterator_iter (wpAny_call_entry PySem.F.slot_dict_keyiterator_iter st.typeIs PySem.F.entry_dict_keyiterator_iter ?_ (PySem.F.args_dict_keyiterator_iter_1 _))
    show wpAny _ _ (ret (.ref it)) _ _ s
    exact wpAny_pure ⟨_, rfl, "dict_keyiterator", _, st.typeIs, PySem.F.slot_dict_keyiterator_next.lookup, h⟩
theorem turn_itemsN {kvs : List NE} {els : List Expr} {kk : Nat} {tp : Pos} (it : Addr) (od0 : o.data = .dict es ep) :
    Turn P w K (.Tuple els kk tp) (ItiN P w d o kvs) [it] it (fun i h => ∃ ok ov, IsItemIter h it d i kvs.length ep ok ov) := by
  refine ⟨by simp, fun i h st b hb => ?_, fun i h h' st k => ?_, ?_, ?_, fun A i s Q E st h => ?_⟩
  · obtain rfl := one_it hb
    obtain ⟨ok, ov, e⟩ := st
    exact ⟨_, e, fun v z => nomatch z⟩
  · obtain ⟨ok, ov, e⟩ := st
    exact ⟨ok, ov, k it (by simp) _ e⟩
  · intro X hP hw hK hc i pn s σ H E I fp st hg
    subst hP hw hK
    obtain ⟨hd, hi⟩ := hg
    obtain ⟨hs, atd, hx, es', ep', dat, siz, ens⟩ := frzN I hd
    obtain ⟨rfl, rfl⟩ := dict_ep od0 dat
    obtain ⟨p, hp⟩ : ∃ p, kvs[i]? = some p := ⟨kvs[i], List.getElem?_eq_getElem hi⟩
    obtain ⟨en, hen, ky, vl⟩ := ens i p hp
    obtain ⟨ok, ov, he⟩ := st
    rw [← siz] at he
    have hi' : i < es'.size := by omega
    have een : es'[i] = en := by
      rw [Array.getElem?_eq_getElem hi'] at hen
      exact Option.some.inj hen
    have low : it < s.heap.objs.size := Heap.lt_size he
    refine DT.nextI he ⟨o, atd, hx, dat⟩ hi' fun h' ho hT hz hk => ?_
    rw [een] at ho hT
    refine ⟨_, rfl, wpAny_letOwnedTupleGo_items (s := { s with heap := h' }) ho fun h'' he' sb => ?_⟩
    have hT2 : h''.get? s.heap.objs.size = some { cls := .type "tuple", data := .seq #[en.key, en.val] } := (sb.2 _ (Nat.ne_of_gt low)).trans hT
    have new : ObjOk X.prog X.w (upd H s.heap.objs.size (.tup [.ref p.2.1, p.2.2])) h'' s.heap.objs.size (.tup [.ref p.2.1, p.2.2]) :=
      ⟨by show 2 ≤ sizeLine; decide, [en.key, en.val], .cons ky (.cons vl .nil), ⟨_, hT2, rfl, _, rfl⟩⟩
    have J1 : Inv X pn σ (upd H s.heap.objs.size (.tup [.ref p.2.1, p.2.2])) { s with heap := h'' } :=
      I.turnedNew (t' := s.toks) (ch := [it]) (fun b ob hb e => (sb.2 b (by simpa using hb)).trans (hk b ob (by simpa using hb) e)) fp (Nat.le_refl _) new
    refine ⟨.ref s.heap.objs.size, _, J1, rfl, ⟨_, p, hp, rfl, I.hok.fresh (Nat.le_refl _), rfl⟩, ⟨en.key, en.val, ?_⟩, fun b hb => ?_⟩
    · rw [← siz]
      exact he'
    · obtain rfl := one_it hb
      rw [upd_ne (Nat.ne_of_lt low)]
      exact (fp b (by simp)).1
  · intro X hP hw hK hc i pn s σ H E I fp st hg
    subst hP hw hK
    obtain ⟨hd, hi⟩ := hg
    obtain ⟨c0, c1, c2, c3, c4, c5⟩ := fp it (by simp)
    obtain ⟨hs, atd, hx, es', ep', dat, siz, ens⟩ := frzN I hd
    obtain ⟨rfl, rfl⟩ := dict_ep od0 dat
    obtain ⟨ok, ov, he⟩ := st
    rw [← siz] at he
    exact DT.endI (I.ok.hd hc) he ⟨o, atd, hx, dat⟩ (by omega) fun h' eb => ⟨rfl, I.turned (t' := s.toks) (fun b ob hb e => eb b ob hb e) c0 c1 c3 c4 c5⟩
  · obtain ⟨_, _, e⟩ := st
    exact PySem.W.kcp_self e h
end
def iKeysN (P : Program) (w : World) (td : TE) : TI := fun σ H R => td σ H fun x H1 => ∃ d o kvs, x = .ref d ∧ H1 d = some (.frz o (dnO P w d kvs)) ∧ R (ItkN P w d o kvs) H1
def iItemsN (P : Program) (w : World) (td : TE) : TI := fun σ H R => td σ H fun x H1 => ∃ d o kvs, x = .ref d ∧ H1 d = some (.frz o (dnO P w d kvs)) ∧ R (ItiN P w d o kvs) H1
section
variable {X : Cx} {tgt e : Expr} {td : TE} {ap cp : Pos}
theorem pi_keysN (he : PE X e td) : PI X tgt e (iKeysN X.prog X.w td) := by
  refine ⟨fun pn s σ H R I h => ?_⟩
  refine thn (he.run pn s σ H _ I h) fun u s1 ⟨x, H1, J1, ex1, d, o, kvs, ex, hd, q⟩ => ?_
  subst ex
  obtain rfl : u = Value.ref d := ex1
  obtain ⟨hs, atd, hx, es, ep, dat, siz, ens⟩ := frzN J1 hd
  refine iter_keys hs atd hx dat (pi_one (tk := s1.toks) J1 _ (turn_keysN _ dat) ⟨_, Heap.get?_push_size _ rfl, rfl, ?_⟩ q)
  rw [siz] <;> rfl
theorem pi_itemsN {els : List Expr} {kk : Nat} {tp : Pos} (he : PE X e td) (hbase : attributeBase e "items" X.env (eval e X.env) = eval e X.env := by rfl) (hline : (ap.endLine == cp.line) = true := by rfl) :
    PI X (.Tuple els kk tp) (.Call (.Attribute e "items" ap) [] [] cp) (iItemsN X.prog X.w td) := by
  refine ⟨fun pn s σ H R I h => ?_⟩
  refine wpAny_Call_method (T := "dict") (id := "dict.items") hbase rfl hline PySem.F.plainAttrs_dict PySem.F.slot_dict_items PySem.F.type_dict_items (thn (he.run pn s σ H _ I h) fun u s1 ⟨x, H1, J1, ex1, d, o, kvs, ex, hd, q⟩ => ?_)
  subst ex
  obtain rfl : u = Value.ref d := ex1
  obtain ⟨hs, atd, hx, es, ep, dat, siz, ens⟩ := frzN J1 hd
  have raw : DT.Raw s1.heap d es ep := ⟨o, atd, hx, dat⟩
  refine ⟨raw.typeIs, ?_, ?_⟩
  · intro b e
    cases e
    exact ⟨o, atd, hx.2.1⟩
  have J2 : Inv X pn σ H1 { s1 with heap := s1.heap.push { cls := .type "dict_items", data := .fields #[.ref d] } } := J1.kept (t' := s1.toks) fun b ob q => Heap.get?_push_of_some _ q
  have goes : wpAny (model X.prog X.w) X.A (pyIter (.ref s1.heap.objs.size)) (PIE X pn σ (.Tuple els kk tp) R) X.xe { s1 with heap := s1.heap.push { cls := .type "dict_items", data := .fields #[.ref d] } } := by
    refine DT.iterI (d := d) ⟨_, Heap.get?_push_size _ rfl, rfl, rfl⟩ (raw.push _) (pi_one (tk := s1.toks) J2 _ (turn_itemsN _ dat) ⟨.none, .none, ?_⟩ q)
    rw [← siz]
    exact Heap.get?_push_size _ rfl
  show wpAny _ _ (callWith cp (.builtin "dict.items") [.ref d] [] []) _ X.xe s1
  exact method_meetsIn PySem.F.slot_dict_items PySem.F.entry_dict_items rfl (PySem.evalArgs_none ⟨rfl, raw.typeIs, PySem.F.args_dict_items_1 _, _, DT.meetsItems (es := es) (ep := ep) hs, raw, goes⟩)
end
theorem walk_keysN {P : Program} {w : World} {d : Addr} {o : Obj} {kvs : List NE} : Walk (ItkN P w d o kvs) kvs.length (fun H => H d = some (.frz o (dnO P w d kvs))) (fun i H x H' => H' = H ∧ ∃ p, kvs[i]? = some p ∧ x = .ref p.2.1) :=
  ⟨fun i _ hi q => ⟨q, hi⟩, fun _ q => ⟨q, Nat.le_refl _⟩, fun i H v H' _ q y => y⟩
theorem walk_itemsN {P : Program} {w : World} {d : Addr} {o : Obj} {kvs : List NE} : Walk (ItiN P w d o kvs) kvs.length (fun H => H d = some (.frz o (dnO P w d kvs))) (fun i H x H' => ∃ T p, kvs[i]? = some p ∧ x = .ref T ∧ H T = none ∧ H' = upd H T (.tup [.ref p.2.1, p.2.2])) :=
  ⟨fun i _ hi q => ⟨q, hi⟩, fun _ q => ⟨q, Nat.le_refl _⟩, fun i H v H' _ q y => y⟩
/-! ### sets of texts: made of a list or a tuple, counted, sorted -/
def keyTx (e : Int × Value) : Str := match e.2 with
  | .str k _ => k
  | _ => Str.empty
def TxE (w : World) (e : Int × Value) : Prop := ∃ k tk, e.2 = Value.str k tk ∧ e.1 = hashStr w k
/-- the set at a has just these texts, and can be gone through -/
def SetTx (w : World) (h : Heap) (a : Addr) (ks : List Str) : Prop := ∃ o es ep t, h.get? a = some o ∧ o.ExactSet ∧ o.data = .set es ep t ∧ (∀ e ∈ es.toList, TxE w e) ∧ (es.toList.map keyTx).Perm ks ∧ ks.Nodup ∧
  es.size < scanBound ∧ t.fits es.size = true ∧ Ris t.place.toList ∧ (w.params.followText "set-order" = true ∨ t.led = true)
theorem SetTx.keep {w : World} {h h' : Heap} {a : Addr} {ks : List Str} (R : SetTx w h a ks) (k : ∀ o, h.get? a = some o → h'.get? a = some o) : SetTx w h' a ks := by
  obtain ⟨o, es, ep, t, e, r⟩ := R
  exact ⟨o, es, ep, t, k o e, r⟩
theorem SetTx.perm {w : World} {h : Heap} {a : Addr} {ks ks' : List Str} (R : SetTx w h a ks) (p : ks.Perm ks') : SetTx w h a ks' := by
  obtain ⟨o, es, ep, t, h1, h2, h3, h4, h5, h6, r⟩ := R
  exact ⟨o, es, ep, t, h1, h2, h3, h4, h5.trans p, p.nodup_iff.mp h6, r⟩
section
variable {P : Program} {w : World} {A : Around} {E : Value → Shared → Prop} {s : Shared} {a : Addr} {ks : List Str}
theorem tx_elems {l : List (Int × Value)} (g : ∀ e ∈ l, TxE w e) : ElemsOf (PySem.strKind P w) l := fun e he => by
  obtain ⟨k, tk, h1, h2⟩ := g e he
  refine ⟨⟨k, ?_, h2⟩, ?_⟩
  · rw [h1]
    exact strKind_is P w k tk
  · rw [h1]
    rfl
theorem tx_is {e : Int × Value} (g : TxE w e) (k : Str) : (PySem.strKind P w).is k e.2 = true ↔ keyTx e = k := by
  obtain ⟨k0, tk, h1, _⟩ := g
  unfold keyTx
  rw [h1]
  constructor
  · intro z
    obtain ⟨t, q⟩ := Value.isStrOf_shape (show Value.isStrOf k (.str k0 tk) = true from z)
    injection q
  · intro z
    have z : k0 = k := z
    rw [← z]
    exact strKind_is P w k0 tk
/-- the end of an addition: it is laid in, the table is made wider at times -/
theorem tx_laid {g : Bool → Sem Unit} (hg : ∀ (b : Bool) (s₁ : Shared) (Q' : Unit → Shared → Prop), Q' () s₁ → wpAny (model P w) A (g b) Q' E s₁)
    {o : Obj} {es0 : Array (Int × Value)} {ep : Nat} {t0 : SetTable} (ho : s.heap.get? a = some o) (hex : o.ExactSet) (hd : o.data = .set es0 ep t0)
    {es : Array (Int × Value)} {t : SetTable} (h1 : ∀ e ∈ es.toList, TxE w e) (h2 : (es.toList.map keyTx).Perm ks) (h3 : ks.Nodup) (h4 : es.size < scanBound) (h5 : t.fits es.size = true) (h6 : Ris t.place.toList) (h7 : w.params.followText "set-order" = true ∨ t.led = true)
    {was : Bool} {R : Option Bool → Shared → Prop} (hR : ∀ h', Heap.SameBut a s.heap h' → SetTx w h' a ks → R (some true) { s with heap := h' }) :
    wpAny (model P w) A (do
        storeSet a es t
        if (!was && t.tooFull) = true then do
            g (relayAll t es (SetTable.grown es.size)).2.2
            storeSet a (relayAll t es (SetTable.grown es.size)).1 (relayAll t es (SetTable.grown es.size)).2.1
            pure (some true)
          else pure (some true)) R E s := by
  refine wpAny_bind (wpAny_storeSet_of ho hd ?_ (fits_of_scanBound h4))
  have at1 := store_at (es' := es) (t' := t) ho hd
  have but1 := Heap.SameBut.update s.heap a (Obj.putSet es t)
  split
  · obtain ⟨Z, eZ⟩ : ∃ Z, Z = relayAll t es (SetTable.grown es.size) := ⟨_, rfl⟩
    have q1 := relayAll_perm t es (SetTable.grown es.size)
    have q2 := relayAll_fits t es (SetTable.grown es.size)
    have q3 := relayAll_ris t es (SetTable.grown es.size)
    have q4 := relayAll_led t es (SetTable.grown es.size)
    rw [← eZ] at q1 q2 q3 q4 ⊢
    have sz : Z.1.size = es.size := by
      rw [← Array.length_toList, q1.length_eq, Array.length_toList]
    refine wpAny_bind (hg _ _ _ ?_)
    refine wpAny_bind (wpAny_storeSet_of at1 rfl ?_ (fits_of_scanBound (by rw [sz]; exact h4)))
    have at2 := store_at (es' := Z.1) (t' := Z.2.1) at1 rfl
    exact wpAny_pure (hR _ (but1.trans (Heap.SameBut.update _ a _)) ⟨_, Z.1, _, Z.2.1, at2, hex, rfl, fun e he => h1 e (q1.mem_iff.mp he), (q1.map keyTx).trans h2, h3, by rw [sz]; exact h4, q2, q3, h7.imp id fun z => by rw [q4]; exact z⟩)
  · exact wpAny_pure (hR _ but1 ⟨_, es, _, t, at1, hex, rfl, h1, h2, h3, h4, h5, h6, h7⟩)
def putTx (ks : List Str) (k : Str) : List Str := if k ∈ ks then ks else k :: ks
theorem tx_add {k : Str} {tk : Tok} {Q : Bool → Shared → Prop} (R : SetTx w s.heap a ks) (room : ks.length + 1 < scanBound)
    (hQ : ∀ b h', Heap.SameBut a s.heap h' → SetTx w h' a (putTx ks k) → Q b { s with heap := h' }) :
    wpAny (model P w) A (setAddHashed a (.str k tk) ((PySem.strKind P w).hash k)) Q E s := by
  obtain ⟨o, es, ep, t, ho, hex, hd, g, pm, nd, hb, hf, hr, hl⟩ := R
  have hel : ElemsOf (PySem.strKind P w) es.toList := tx_elems g
  unfold setAddHashed setAddHashedIn
  refine wpAny_holding (wpAny_bind (wpAny_setState_of ho hd hf ?_))
  dsimp only
  rw [byScan_of (x := Value.str k tk) rfl hb hel]
  simp only [↓reduceIte]
  unfold setAddByScan
  refine wpAny_bind (wpAny_bind (wpAny_rule (wpAny_bind (wpAny_setScan_of (strKind_is P w k tk) ho hd hf hel ?_))))
  cases hfi : List.findIdx? (fun e => (PySem.strKind P w).is k e.2) es.toList with
  | some j =>
    dsimp only
    obtain ⟨hj, pj, _⟩ := List.findIdx?_eq_some_iff_getElem.mp hfi
    have mem : k ∈ ks := pm.mem_iff.mp (List.mem_map.mpr ⟨_, List.getElem_mem hj, (tx_is (g _ (List.getElem_mem hj)) k).mp pj⟩)
    refine wpAny_pure (wpAny_pure (hQ _ s.heap (Heap.SameBut.refl a s.heap) ?_))
    unfold putTx
    rw [if_pos mem]
    exact ⟨o, es, ep, t, ho, hex, hd, g, pm, nd, hb, hf, hr, hl⟩
  | none =>
    dsimp only
    have nk : k ∉ ks := fun z => by
      obtain ⟨e, he, q⟩ := List.mem_map.mp (pm.mem_iff.mpr z)
      have c := List.findIdx?_eq_none_iff.mp hfi e he
      rw [(tx_is (P := P) (g e he) k).mpr q] at c
      cases c
    have way : ∀ (b : Bool) {s₁ : Shared} {Q' : Unit → Shared → Prop}, Q' () s₁ → wpAny (model P w) A (match b with | true => rule "set.scan.the-table-gave-way" | false => pure ()) Q' E s₁ :=
      fun b s₁ Q' q => by cases b <;> first | exact wpAny_pure q | exact wpAny_rule q
    have p1 := layNew_perm t es ((PySem.strKind P w).hash k) (.str k tk)
    have p2 := layNew_fits t es ((PySem.strKind P w).hash k) (.str k tk)
    have p3 := layNew_ris t es ((PySem.strKind P w).hash k) (.str k tk) hr
    have p4 := layNew_led t es ((PySem.strKind P w).hash k) (.str k tk)
    generalize layNew t es ((PySem.strKind P w).hash k) (.str k tk) = Z at p1 p2 p3 p4 ⊢
    obtain ⟨es1, t1, was, gave⟩ := Z
    dsimp only at p1 p2 p3 p4 ⊢
    rw [Array.toList_push] at p1
    have pc : es1.toList.Perm (((PySem.strKind P w).hash k, Value.str k tk) :: es.toList) := p1.trans (List.perm_append_singleton _ _)
    have g1 : ∀ e ∈ es1.toList, TxE w e := fun e he => by
      rcases List.mem_cons.mp (pc.mem_iff.mp he) with z | z
      · rw [z]
        exact ⟨k, tk, rfl, rfl⟩
      · exact g e z
    have pk : (es1.toList.map keyTx).Perm (k :: ks) := (pc.map keyTx).trans (List.Perm.cons k pm)
    have lk : es.size = ks.length := by
      rw [← Array.length_toList, ← pm.length_eq, List.length_map]
    have sz : es1.size = ks.length + 1 := by
      rw [← Array.length_toList, pc.length_eq, List.length_cons, Array.length_toList, lk]
    have led : w.params.followText "set-order" = true ∨ t1.led = true := hl.imp id fun z => by rw [p4]; exact z
    have fin : ∀ h', Heap.SameBut a s.heap h' → SetTx w h' a (k :: ks) → ∀ b, Q b { s with heap := h' } := fun h' sb r b => hQ b h' sb (by
      unfold putTx
      rw [if_neg nk]
      exact r)
    have ndk : (k :: ks).Nodup := List.nodup_cons.mpr ⟨nk, nd⟩
    refine wpAny_bind (way _ ?_)
    split
    · refine wpAny_bind ?_
      rw [hashByValue_scannable 8 (x := Value.str k tk) rfl]
      refine wpAny_pure ?_
      refine tx_laid ?_ ho hex hd g1 pk ndk (by rw [sz]; exact room) ?_ ?_ ?_ ?_
      · intro b s₁ Q' q
        cases b <;> first | exact wpAny_pure q | exact wpAny_rule q
      · first | (split <;> first | exact p2 | exact SetTable.fits_plain_off p2) | exact p2
      · first | (split <;> exact p3) | exact p3
      · first | (split <;> exact led) | exact led
      · intro h' sb r
        dsimp only
        exact wpAny_pure (fin h' sb r _)
    · refine wpAny_bind (wpAny_pure ?_)
      simp only [↓reduceIte]
      refine tx_laid ?_ ho hex hd g1 pk ndk (by rw [sz]; exact room) p2 p3 led ?_
      · intro b s₁ Q' q
        cases b <;> first | exact wpAny_pure q | exact wpAny_rule q
      · intro h' sb r
        dsimp only
        exact wpAny_pure (fin h' sb r _)
end
/-! the texts of a list or a tuple, one behind the other -/
def gotTx (xs : List Str) : List Str := xs.foldl putTx []
theorem putTx_mem {ks : List Str} {k x : Str} : x ∈ putTx ks k ↔ x = k ∨ x ∈ ks := by
  unfold putTx
  by_cases h : k ∈ ks
  · rw [if_pos h]
    exact ⟨.inr, fun z => z.elim (fun e => e ▸ h) id⟩
  · rw [if_neg h]
    exact List.mem_cons
theorem putTx_nodup {ks : List Str} {k : Str} (h : ks.Nodup) : (putTx ks k).Nodup := by
  unfold putTx
  by_cases c : k ∈ ks
  · rw [if_pos c]
    exact h
  · rw [if_neg c]
    exact List.nodup_cons.mpr ⟨c, h⟩
theorem putTx_len {ks : List Str} {k : Str} : (putTx ks k).length ≤ ks.length + 1 := by
  unfold putTx
  split
  · omega
  · rw [List.length_cons]
    exact Nat.le_refl _
theorem gotTx_snoc (xs : List Str) (k : Str) : gotTx (xs ++ [k]) = putTx (gotTx xs) k := by
  unfold gotTx
  rw [List.foldl_append]
  rfl
theorem gotTx_all : ∀ (xs : List Str) (ks : List Str), ks.Nodup → (xs.foldl putTx ks).Nodup ∧ (∀ x, x ∈ xs.foldl putTx ks ↔ x ∈ xs ∨ x ∈ ks) ∧ (xs.foldl putTx ks).length ≤ ks.length + xs.length
  | [], ks, h => ⟨h, fun x => ⟨.inr, fun z => z.elim (fun y => nomatch y) id⟩, Nat.le_refl _⟩
  | k :: xs, ks, h => by
    obtain ⟨h1, h2, h3⟩ := gotTx_all xs (putTx ks k) (putTx_nodup h)
    refine ⟨h1, fun x => ?_, ?_⟩
    · show x ∈ xs.foldl putTx (putTx ks k) ↔ _
      rw [h2 x, putTx_mem, List.mem_cons]
      constructor
      · rintro (z | z | z)
        · exact .inl (.inr z)
        · exact .inl (.inl z)
        · exact .inr z
      · rintro ((z | z) | z)
        · exact .inr (.inl z)
        · exact .inl z
        · exact .inr (.inr z)
    · have := putTx_len (ks := ks) (k := k)
      show (xs.foldl putTx (putTx ks k)).length ≤ _
      rw [List.length_cons]
      omega
theorem gotTx_nodup (xs : List Str) : (gotTx xs).Nodup := (gotTx_all xs [] List.nodup_nil).1
theorem gotTx_mem {xs : List Str} {x : Str} : x ∈ gotTx xs ↔ x ∈ xs := by
  have := (gotTx_all xs [] List.nodup_nil).2.1 x
  exact ⟨fun z => (this.mp z).elim id fun y => (by cases y), fun z => this.mpr (.inl z)⟩
theorem gotTx_len (xs : List Str) : (gotTx xs).length ≤ xs.length := by
  have := (gotTx_all xs [] List.nodup_nil).2.2
  rw [List.length_nil, Nat.zero_add] at this
  exact this
theorem tx_fresh {w : World} {h : Heap} {a : Addr} (ho : h.get? a = some { cls := .type "set", dict := none, data := .set #[] 0 (.fresh 0 0 (!w.params.followText "set-order")) }) : SetTx w h a [] := by
  refine ⟨_, #[], 0, _, ho, ⟨rfl, rfl, rfl⟩, rfl, fun e he => ?_, .nil, List.nodup_nil, by show 0 < scanBound; unfold scanBound; omega, rfl, List.Pairwise.nil, ?_⟩
  · cases he
  · show _ ∨ (!w.params.followText "set-order") = true
    cases w.params.followText "set-order"
    · exact .inr rfl
    · exact .inl rfl
section
variable {P : Program} {w : World} {A : Around} {R : Result → Shared → Prop} {I : Addr} {fp wr : List Addr} {G : Array GenState → Array GenState → Prop} {n : Nat} {Pv : Nat → Value → Prop} {St : Nat → Shared → Prop}
theorem tx_loop (W : WalksS P w A.in1 I fp wr G n Pv St) (S : Addr) (hSf : S ∉ fp) (xs : List Str) (hn : xs.length = n) (few : n + 1 < scanBound) (hval : ∀ i v, Pv i v → ∃ x t, xs[i]? = some x ∧ v = .str x t) :
    ∀ (k i : Nat) (s : Shared), n - i = k → i ≤ n → St i s → SetTx w s.heap S (gotTx (xs.take i)) →
      (∀ s', Moved (S :: wr) G s s' → SetTx w s'.heap S (gotTx xs) → R (.ok (.ret .none)) s') → codeAny (model P w) A (.builtin "set.update.loop" ⟨[.ref S, .ref I], []⟩) R s := by
  have nw : S ∉ wr := fun h => hSf (W.sub _ h)
  have sub : ∀ b ∈ wr, b ∈ S :: wr := fun b hb => List.mem_cons_of_mem _ hb
  intro k
  induction k with
  | zero =>
    intro i s hk hi hst hS hR
    have ei : i = n := by omega
    subst ei
    refine codeAny_builtin PyProof.Rows.F.entry_set_update_loop ?_
    rw [Around.under_plainId PyProof.Rows.F.plain_set_update_loop _]
    show wpAny _ A.in1 (pyNext (.ref I) >>= _) _ _ s
    refine wpAny_bind (W.done s _ _ hst fun s' mv => ?_)
    rw [← hn, List.take_length] at hS
    exact wpAny_pure (hR s' (mv.mono sub) (hS.keep fun o e => mv.heap S o nw e))
  | succ k ih =>
    intro i s hk hi hst hS hR
    have lt : i < n := by omega
    refine codeAny_builtin PyProof.Rows.F.entry_set_update_loop ?_
    rw [Around.under_plainId PyProof.Rows.F.plain_set_update_loop _]
    show wpAny _ A.in1 (pyNext (.ref I) >>= _) _ _ s
    refine wpAny_bind (W.item i s _ _ lt hst fun v s' hP st2 mv => ?_)
    obtain ⟨x, t, hx, rfl⟩ := hval i v hP
    have hS1 : SetTx w s'.heap S (gotTx (xs.take i)) := hS.keep fun o e => mv.heap S o nw e
    show wpAny _ A.in1 (holding [Value.str x t] (setAdd S (.str x t)) >>= _) _ _ s'
    refine wpAny_bind (wpAny_holding ?_)
    unfold setAdd
    refine wpAny_holding (wpAny_bind ((PySem.strKind P w).pyHash (k := x) (strKind_is _ _ _ _) ?_))
    have ll := gotTx_len (xs.take i)
    rw [List.length_take] at ll
    refine tx_add (s := { s' with toks := s'.toks + 1 }) hS1 (by omega) fun b h' sb hS2 => ?_
    have nx : putTx (gotTx (xs.take i)) x = gotTx (xs.take (i + 1)) := by
      rw [List.take_add_one, hx]
      exact (gotTx_snoc _ _).symm
    rw [nx] at hS2
    refine wpAny_pure ⟨plainId_quiet PyProof.Rows.F.plain_set_update_loop _, ih (i + 1) _ (by omega) lt (W.frame _ s' _ _ st2 (Nat.le_succ _) fun c hc o e => ?_) hS2 fun s2 mv2 hS3 => ?_⟩
    · exact (sb.2 c fun z => hSf (z ▸ hc)).trans e
    · refine hR s2 (Moved.trans W.gtrans ((mv.mono sub).then_heap (Nat.le_succ _) fun c o hc e => ?_) mv2) hS3
      exact (sb.2 c fun z => hc (z ▸ List.mem_cons_self)).trans e
end
theorem strs_nth : ∀ {vs : List Value} {xs : List Str}, PyProof.Rows.StrsAre vs xs → ∀ {i : Nat} {v : Value}, vs[i]? = some v → ∃ x t, xs[i]? = some x ∧ v = .str x t
  | _, _, .nil, i, v, e => by simp at e
  | _, _, .cons x t r, 0, v, e => ⟨x, t, rfl, (Option.some.inj e).symm⟩
  | _, _, .cons x t r, i + 1, v, e => strs_nth r (i := i) (by simpa using e)
theorem strs_len : ∀ {vs : List Value} {xs : List Str}, PyProof.Rows.StrsAre vs xs → vs.length = xs.length
  | _, _, .nil => rfl
  | _, _, .cons x t r => by rw [List.length_cons, List.length_cons, strs_len r]
section
variable {P : Program} {w : World} {A : Around} {E : Value → Shared → Prop} {s : Shared}
set_option maxRecDepth 100000 in
set_option maxHeartbeats 3200000 in
theorem tx_of_list {l : Addr} {items : Array Value} {xs : List Str} {Q : Value → Shared → Prop} (hh : A.handled = none) (hl : s.heap.IsList l items) (hi : PyProof.Rows.StrsAre items.toList xs) (few : xs.length + 1 < scanBound)
    (h : ∀ (h' : Heap) (tk : Nat), SetTx w h' s.heap.objs.size (gotTx xs) → (∀ b o, s.heap.get? b = some o → h'.get? b = some o) → Q (.ref s.heap.objs.size) { s with heap := h', toks := tk }) : wpAny (model P w) A (call (.type "set") [.ref l]) Q E s := by
  have nx : xs.length = items.size := by
    rw [← strs_len hi, Array.length_toList]
  obtain ⟨c, tl, hmro⟩ := PySem.F.called_set.mro
  have w1 := PySem.F.called_set.made
  have w2 := PySem.F.called_set.sub
  refine wpAny_call (codeAny_of_tree ?_)
  show wpAny _ _ (callAny (.type "set") _) _ _ _
  refine wpAny_pure ⟨Code.quiet_builtin _ (by decide +kernel), codeAny_builtin PySem.F.entry_type_call ?_⟩
  rw [Around.under_plain (weight_type_call_type "set" [.ref l] []) rfl]
  have w3 := PySem.F.called_set.notType
  have w4 := PySem.F.called_set.canCreate
  have w5 := PySem.F.typeCall_set_1 (.ref l)
  repeat (any_goals (first | assumption | wp_step))

  refine codeAny_mono (code_set_led1 (.ref l) (E := E) (Q₁ := fun obj s₁ => obj = .ref s.heap.objs.size ∧ s₁ = { s with heap := s.heap.push { cls := .type "set", dict := none, data := .set #[] 0 (.fresh 0 0 (!w.params.followText "set-order")) } }) ⟨rfl, rfl⟩) fun r s₁ hr => ?_
  cases r with
  | error e => exact hr
  | ok fl =>
    cases fl with
    | ret obj =>
      obtain ⟨rfl, rfl⟩ := hr
      have at0 : (s.heap.push { cls := .type "set", dict := none, data := .set #[] 0 (.fresh 0 0 (!w.params.followText "set-order")) }).get? s.heap.objs.size = some { cls := .type "set", dict := none, data := .set #[] 0 (.fresh 0 0 (!w.params.followText "set-order")) } := Heap.get?_push_size _ rfl
      have ty0 : Shared.TypeIs { s with heap := s.heap.push { cls := .type "set", dict := none, data := .set #[] 0 (.fresh 0 0 (!w.params.followText "set-order")) } } (.ref s.heap.objs.size) "set" := ⟨_, at0, rfl⟩
      have w6 := PySem.F.called_set.init.lookup
      have w7 := PySem.F.called_set.init.bind (.ref s.heap.objs.size)
      repeat (any_goals (first | assumption | wp_step))

      refine codeAny_mono (codeAny_call_builtin (R := wants (fun r s₂ => r = .none ∧ ∃ h' tk, s₂ = { s with heap := h', toks := tk } ∧ SetTx w h' s.heap.objs.size (gotTx xs) ∧ (∀ b o, s.heap.get? b = some o → h'.get? b = some o)) E) PySem.F.called_set.init.plain PySem.F.entry_set_init (check_set_init_1 ty0 ?_)) fun r₂ s₂ hr₂ => ?_
      · obtain ⟨ol, hol, hcl, nl, hdl⟩ := hl
        obtain ⟨ocls, odict, odata, oslots⟩ := ol
        simp only at hcl hdl
        subst hcl; subst hdl
        have hol' : (s.heap.push { cls := .type "set", dict := none, data := .set #[] 0 (.fresh 0 0 (!w.params.followText "set-order")) }).get? l = some { cls := .type "list", dict := odict, data := .seq items nl, slots := oslots } := Heap.get?_push_of_some _ hol
        have w8 := PySem.F.sub_list_set
        have w9 := PySem.F.sub_list_frozenset
        have w10 : (Value.type "list" == Value.type "dict") = false := by decide
        have hl1 : (s.heap.push { cls := .type "set", dict := none, data := .set #[] 0 (.fresh 0 0 (!w.params.followText "set-order")) }).IsList l items := ⟨_, hol', rfl, nl, rfl⟩
        unfold Builtin.«set.__init__» noKeywords Builtin.Frozenset.updateFrom
        generalize hPI : pyIter = PI
        wp_walk
        subst hPI

        refine wpAny_pyIter_list hl1 ?_
        refine wpAny_bind (wpAny_runValue ?_)
        have low : l < s.heap.objs.size := Heap.lt_size hol
        have h3 : A.in1.in1.in1.handled = none := by simp [hh]
        have sz : (s.heap.push { cls := .type "set", dict := none, data := .set #[] 0 (.fresh 0 0 (!w.params.followText "set-order")) }).objs.size = s.heap.objs.size + 1 := Heap.size_push ..
        refine tx_loop (w := w) ((Walks.list h3 _ l (by rw [sz]; exact Nat.ne_of_lt (Nat.lt_succ_of_lt low)) items).toS) s.heap.objs.size (fun hm => ?_) xs nx (by rw [← nx]; exact few) (fun i v hv => strs_nth hi (by rw [Array.getElem?_toList]; exact hv)) (items.size - 0) 0 _ (by omega) (Nat.zero_le _)
          ⟨⟨_, Heap.get?_push_size _ rfl, rfl, rfl⟩, (hl1.push _)⟩ (tx_fresh ?_) ?_
        · simp only [List.mem_cons, List.not_mem_nil, or_false, sz] at hm
          rcases hm with z | z
          · exact absurd z (Nat.ne_of_lt (Nat.lt_succ_self _))
          · exact absurd z (Nat.ne_of_gt low)
        · exact Heap.get?_push_of_some _ at0
        · intro s' mv hS'
          obtain ⟨h', g2, d', tk', os'⟩ := s'
          have eg : g2 = s.gens := mv.gens
          have ed : d' = s.drawn := mv.drawn
          have eo : os' = s.os := mv.os
          subst eg; subst ed; subst eo
          show wpAny _ _ _ _ _ _
          refine wpAny_pure ?_
          show wpAny _ _ (ret Value.none) _ _ _
          refine wpAny_pure ⟨rfl, h', tk', rfl, hS', fun b o e => mv.heap b o (fun hm => ?_) (Heap.get?_push_of_some _ (Heap.get?_push_of_some _ e))⟩
          have lb : b < s.heap.objs.size := Heap.lt_size e
          simp only [List.mem_cons, List.not_mem_nil, or_false, sz] at hm
          rcases hm with z | z
          · exact absurd z (Nat.ne_of_lt lb)
          · exact absurd z (Nat.ne_of_lt (Nat.lt_succ_of_lt lb))
      · cases r₂ with
        | error e => exact hr₂
        | ok fl₂ =>
          cases fl₂ with
          | ret r =>
            obtain ⟨rfl, h', tk, rfl, hS', hk'⟩ := hr₂
            repeat (any_goals (first | assumption | wp_step))
            exact h _ _ hS' hk'
          | _ => exact hr₂.elim
    | _ => exact hr.elim
end
section
variable {P : Program} {w : World} {A : Around} {E : Value → Shared → Prop} {s : Shared}
set_option maxRecDepth 100000 in
set_option maxHeartbeats 3200000 in
theorem tx_of_tuple {l : Addr} {items : Array Value} {xs : List Str} {Q : Value → Shared → Prop} (hh : A.handled = none) (hl : s.heap.IsTuple l items) (hi : PyProof.Rows.StrsAre items.toList xs) (few : xs.length + 1 < scanBound)
    (h : ∀ (h' : Heap) (tk : Nat), SetTx w h' s.heap.objs.size (gotTx xs) → (∀ b o, s.heap.get? b = some o → h'.get? b = some o) → Q (.ref s.heap.objs.size) { s with heap := h', toks := tk }) : wpAny (model P w) A (call (.type "set") [.ref l]) Q E s := by
  have nx : xs.length = items.size := by
    rw [← strs_len hi, Array.length_toList]
  obtain ⟨c, tl, hmro⟩ := PySem.F.called_set.mro
  have w1 := PySem.F.called_set.made
  have w2 := PySem.F.called_set.sub
  refine wpAny_call (codeAny_of_tree ?_)
  show wpAny _ _ (callAny (.type "set") _) _ _ _
  refine wpAny_pure ⟨Code.quiet_builtin _ (by decide +kernel), codeAny_builtin PySem.F.entry_type_call ?_⟩
  rw [Around.under_plain (weight_type_call_type "set" [.ref l] []) rfl]
  have w3 := PySem.F.called_set.notType
  have w4 := PySem.F.called_set.canCreate
  have w5 := PySem.F.typeCall_set_1 (.ref l)
  repeat (any_goals (first | assumption | wp_step))

  refine codeAny_mono (code_set_led1 (.ref l) (E := E) (Q₁ := fun obj s₁ => obj = .ref s.heap.objs.size ∧ s₁ = { s with heap := s.heap.push { cls := .type "set", dict := none, data := .set #[] 0 (.fresh 0 0 (!w.params.followText "set-order")) } }) ⟨rfl, rfl⟩) fun r s₁ hr => ?_
  cases r with
  | error e => exact hr
  | ok fl =>
    cases fl with
    | ret obj =>
      obtain ⟨rfl, rfl⟩ := hr
      have at0 : (s.heap.push { cls := .type "set", dict := none, data := .set #[] 0 (.fresh 0 0 (!w.params.followText "set-order")) }).get? s.heap.objs.size = some { cls := .type "set", dict := none, data := .set #[] 0 (.fresh 0 0 (!w.params.followText "set-order")) } := Heap.get?_push_size _ rfl
      have ty0 : Shared.TypeIs { s with heap := s.heap.push { cls := .type "set", dict := none, data := .set #[] 0 (.fresh 0 0 (!w.params.followText "set-order")) } } (.ref s.heap.objs.size) "set" := ⟨_, at0, rfl⟩
      have w6 := PySem.F.called_set.init.lookup
      have w7 := PySem.F.called_set.init.bind (.ref s.heap.objs.size)
      repeat (any_goals (first | assumption | wp_step))

      refine codeAny_mono (codeAny_call_builtin (R := wants (fun r s₂ => r = .none ∧ ∃ h' tk, s₂ = { s with heap := h', toks := tk } ∧ SetTx w h' s.heap.objs.size (gotTx xs) ∧ (∀ b o, s.heap.get? b = some o → h'.get? b = some o)) E) PySem.F.called_set.init.plain PySem.F.entry_set_init (check_set_init_1 ty0 ?_)) fun r₂ s₂ hr₂ => ?_
      · obtain ⟨ol, hol, hcl, nl, hdl⟩ := hl
        obtain ⟨ocls, odict, odata, oslots⟩ := ol
        simp only at hcl hdl
        subst hcl; subst hdl
        have hol' : (s.heap.push { cls := .type "set", dict := none, data := .set #[] 0 (.fresh 0 0 (!w.params.followText "set-order")) }).get? l = some { cls := .type "tuple", dict := odict, data := .seq items nl, slots := oslots } := Heap.get?_push_of_some _ hol
        have w8 := PySem.F.sub_tuple_set
        have w9 := PySem.F.sub_tuple_frozenset
        have w10 : (Value.type "tuple" == Value.type "dict") = false := by decide
        have hl1 : (s.heap.push { cls := .type "set", dict := none, data := .set #[] 0 (.fresh 0 0 (!w.params.followText "set-order")) }).IsTuple l items := ⟨_, hol', rfl, nl, rfl⟩
        unfold Builtin.«set.__init__» noKeywords Builtin.Frozenset.updateFrom
        generalize hPI : pyIter = PI
        wp_walk
        subst hPI

        refine wpAny_pyIter_tuple hl1 ?_
        refine wpAny_bind (wpAny_runValue ?_)
        have low : l < s.heap.objs.size := Heap.lt_size hol
        have h3 : A.in1.in1.in1.handled = none := by simp [hh]
        have sz : (s.heap.push { cls := .type "set", dict := none, data := .set #[] 0 (.fresh 0 0 (!w.params.followText "set-order")) }).objs.size = s.heap.objs.size + 1 := Heap.size_push ..
        refine tx_loop (w := w) ((Walks.tuple h3 _ l (by rw [sz]; exact Nat.ne_of_lt (Nat.lt_succ_of_lt low)) items).toS) s.heap.objs.size (fun hm => ?_) xs nx (by rw [← nx]; exact few) (fun i v hv => strs_nth hi (by rw [Array.getElem?_toList]; exact hv)) (items.size - 0) 0 _ (by omega) (Nat.zero_le _)
          ⟨⟨_, Heap.get?_push_size _ rfl, rfl, rfl⟩, (hl1.push _)⟩ (tx_fresh ?_) ?_
        · simp only [List.mem_cons, List.not_mem_nil, or_false, sz] at hm
          rcases hm with z | z
          · exact absurd z (Nat.ne_of_lt (Nat.lt_succ_self _))
          · exact absurd z (Nat.ne_of_gt low)
        · exact Heap.get?_push_of_some _ at0
        · intro s' mv hS'
          obtain ⟨h', g2, d', tk', os'⟩ := s'
          have eg : g2 = s.gens := mv.gens
          have ed : d' = s.drawn := mv.drawn
          have eo : os' = s.os := mv.os
          subst eg; subst ed; subst eo
          show wpAny _ _ _ _ _ _
          refine wpAny_pure ?_
          show wpAny _ _ (ret Value.none) _ _ _
          refine wpAny_pure ⟨rfl, h', tk', rfl, hS', fun b o e => mv.heap b o (fun hm => ?_) (Heap.get?_push_of_some _ (Heap.get?_push_of_some _ e))⟩
          have lb : b < s.heap.objs.size := Heap.lt_size e
          simp only [List.mem_cons, List.not_mem_nil, or_false, sz] at hm
          rcases hm with z | z
          · exact absurd z (Nat.ne_of_lt lb)
          · exact absurd z (Nat.ne_of_lt (Nat.lt_succ_of_lt lb))
      · cases r₂ with
        | error e => exact hr₂
        | ok fl₂ =>
          cases fl₂ with
          | ret r =>
            obtain ⟨rfl, h', tk, rfl, hS', hk'⟩ := hr₂
            repeat (any_goals (first | assumption | wp_step))
            exact h _ _ hS' hk'
          | _ => exact hr₂.elim
    | _ => exact hr.elim
end
/-! over the layer -/
def setTxO (w : World) (a : Addr) (ks : List Str) : HO := .ext fun h => SetTx w h a ks
theorem setTxO_ok {P : Program} {w : World} {H : Hp} {h : Heap} {a : Addr} {ks : List Str} (R : SetTx w h a ks) : ObjOk P w H h a (setTxO w a ks) := by
  refine ⟨R, ?_, fun h1 h2 y k => y.keep k⟩
  obtain ⟨o, _, _, _, e, _⟩ := R
  exact ⟨o, e⟩
theorem setTx_at {X : Cx} {pins : List (Addr × Obj)} {σ : L2.St} {H : Hp} {s : Shared} {a : Addr} {ks : List Str} (I : Inv X pins σ H s) (h : H a = some (setTxO X.w a ks)) : SetTx X.w s.heap a ks :=
  (show ObjOk X.prog X.w H s.heap a (setTxO X.w a ks) from I.hok a _ h).1
theorem list_of_strs {vs : List Value} (h : ∀ v ∈ vs, ∃ x t, v = Value.str x t) : ∃ xs, PyProof.Rows.StrsAre vs xs := by
  induction vs with
  | nil => exact ⟨[], .nil⟩
  | cons v vs ih =>
    obtain ⟨x, t, rfl⟩ := h v List.mem_cons_self
    obtain ⟨xs, hx⟩ := ih fun u hu => h u (List.mem_cons_of_mem _ hu)
    exact ⟨x :: xs, .cons x t hx⟩
def txOf (v : Value) : Str := match v with
  | .str k _ => k
  | _ => Str.empty
theorem strs_txOf : ∀ {vs : List Value} {xs : List Str}, PyProof.Rows.StrsAre vs xs → vs.map txOf = xs
  | _, _, .nil => rfl
  | _, _, .cons x t r => by
    rw [List.map_cons, strs_txOf r]
    rfl
section
variable {X : Cx}
def rSetTx (K : PySem.W.Frag) (w : World) : List V → Hp → VK → Prop := fun xs H Q => ∃ (l : Addr) (zs : List Str), xs = [.ref l] ∧ (SqL K H l (zs.map V.str) ∨ SqT K H l (zs.map V.str)) ∧ zs.length ≤ 1000 ∧ ∀ p, H p = none → Q (.ref p) (upd H p (setTxO w p (gotTx zs)))
theorem cr_setTx (hc : X.calm = true) : CallR X (.type "set") (rSetTx X.K X.w) := by
  intro pins s σ H xs us Q I r h
  obtain ⟨l, zs, rfl, hs, hz, q⟩ := h
  rw [Vals.ref1 r]
  have few : zs.length + 1 < scanBound := by
    unfold scanBound
    omega
  have fin : ∀ (h' : Heap) (tk : Nat), SetTx X.w h' s.heap.objs.size (gotTx zs) → (∀ b o, s.heap.get? b = some o → h'.get? b = some o) → EP X pins σ Q (.ref s.heap.objs.size) { s with heap := h', toks := tk } := fun h' tk R k =>
    ⟨.ref s.heap.objs.size, _, I.laid (a := s.heap.objs.size) (o := setTxO X.w s.heap.objs.size (gotTx zs)) (t' := tk) k (Nat.le_refl _) (setTxO_ok R), rfl, q _ (I.hok.fresh (Nat.le_refl _))⟩
  rcases hs with hs | hs
  · obtain ⟨its, rv, hl, _⟩ := I.list hs
    exact tx_of_list (items := its.toArray) (I.ok.hd hc) hl.isList (by simpa using rv.strs) few fin
  · obtain ⟨its, rv, ⟨o, e, c, n, d⟩, _⟩ := I.tuple hs
    exact tx_of_tuple (items := its.toArray) (I.ok.hd hc) ⟨o, e, c, n, d⟩ (by simpa using rv.strs) few fin
theorem cr_lenTx : CallR X (.builtin "len") (fun xs H Q => ∃ (a : Addr) (ks : List Str), xs = [.ref a] ∧ H a = some (setTxO X.w a ks) ∧ Q (.int ((ks.length : Nat) : Int)) H) := by
  intro pins s σ H xs us Q I r h
  obtain ⟨a, ks, rfl, ha, q⟩ := h
  rw [Vals.ref1 r]
  obtain ⟨o, es, ep, t, ho, hex, hd, g, pm, nd, hb, hf, hr, hl⟩ := setTx_at I ha
  have lk : es.size = ks.length := by
    rw [← Array.length_toList, ← pm.length_eq, List.length_map]
  refine call_len_set ho hex hd hf ?_ ?_
  · rw [lk] at hb ⊢
    unfold scanBound at hb
    omega
  · rw [lk]
    exact ⟨.int ((ks.length : Nat) : Int), H, I.tok _, ⟨_, rfl⟩, q⟩
def rSortTx (w : World) : List V → Hp → VK → Prop := fun vs H Q => ∃ (a : Addr) (ks : List Str), vs = [V.ref a] ∧ H a = some (setTxO w a ks) ∧ ks.length < 64 ∧
  ∀ (ys : List Str) (p : Addr), ys.Perm ks → sortedS ys = true → H p = none → Q (.ref p) (upd H p (.lst (ys.map V.str)))
theorem cr_sortTx (hc : X.calm = true) : CallR X (.builtin "sorted") (rSortTx X.w) := by
  intro pins s σ H vs us Q I r h
  obtain ⟨a, ks, rfl, ha, h64, q⟩ := h
  rw [Vals.ref1 r]
  obtain ⟨o, es, ep, t, ho, hex, hd, g, pm, nd, hb, hf, hr, hl⟩ := setTx_at I ha
  have lk : es.size = ks.length := by
    rw [← Array.length_toList, ← pm.length_eq, List.length_map]
  refine Calls.call_function_entry kind_sorted plain_sorted entry_sorted (args_sorted1 _) ?_
  unfold Builtin.«sorted»
  refine wpAny_bind (m := checkCount "sorted" 1 1 _) (wpAny_pure ?_)
  refine wpAny_bind (collect_set (A := X.A.in1) (I.ok.hd hc) ⟨o, ho, hex.1, hd⟩ hf hb hr hl fun s1 vs k1 hz g1 o1 pv => ?_)
  have lv : vs.length = ks.length := by
    rw [pv.length_eq, List.length_map, Array.length_toList]
    exact lk
  obtain ⟨xs, hxs⟩ := list_of_strs (vs := vs) fun v hv => by
    obtain ⟨e, he, z⟩ := List.mem_map.mp (pv.mem_iff.mp hv)
    obtain ⟨k, tk, h1, _⟩ := g e he
    exact ⟨k, tk, by rw [← z]; exact h1⟩
  have px : xs.Perm ks := by
    rw [← strs_txOf hxs]
    have z := pv.map txOf
    rw [List.map_map] at z
    exact z.trans pm
  refine wpAny_bind (wpAny_newList ?_ (by rw [lv, sizeLine_eq]; omega))
  have at1 : (s1.heap.push (seqObj "list" vs.toArray 0)).get? s1.heap.objs.size = some (seqObj "list" vs.toArray 0) := Heap.get?_push_size _ rfl
  refine wpAny_bind (wpAny_holding (wpAny_call_entry slot_list_sort ⟨_, at1, rfl⟩ entry_list_sort (list_sort_treeK strKind_oneLt at1 hxs.keysOf (fun v₁ v₂ rest e => keyKind_strs (by rw [← e]; exact hxs)) (by rw [lv]; exact h64) fun st' hp hs => ?_) (args_list_sort _)))
  obtain ⟨ys, b1, b2, b3⟩ := sorted_out_str hxs hp hs
  refine ⟨_, rfl, ?_⟩
  obtain ⟨c, at2⟩ := sortedHeap_at (vs := vs) (out := (arrOf st').map (·.2)) at1
  have old : ∀ b u, s.heap.get? b = some u → (sortedHeap (s1.heap.push (seqObj "list" vs.toArray 0)) s1.heap.objs.size vs ((arrOf st').map (·.2))).get? b = some u := fun b u e => by
    have z := k1 b u e
    have low := Heap.lt_size z
    rw [sortedHeap_old (Nat.ne_of_lt low) (by rw [Heap.size_push]; exact Nat.lt_succ_of_lt low)]
    exact Heap.get?_push_of_some _ z
  have ly : (ys.map V.str).length ≤ sizeLine := by
    rw [List.length_map, b2.length_eq, px.length_eq, sizeLine_eq]
    omega
  have hn : H s1.heap.objs.size = none := I.hok.fresh hz
  refine wpAny_pure ⟨_, rfl, ?_⟩
  have J : Inv X pins σ (upd H s1.heap.objs.size (.lst (ys.map V.str))) { s with heap := sortedHeap (s1.heap.push (seqObj "list" vs.toArray 0)) s1.heap.objs.size vs ((arrOf st').map (·.2)), gens := s1.gens, drawn := s1.drawn, toks := s1.toks } :=
    I.call (ch := []) (Un.laid old hz hn) (I.hok.laid old hz ⟨ly, ((arrOf st').map (·.2)).toList, c, vals_of_strs b1, at2⟩) (by rw [g1]; exact I.bare) (fun _ z => nomatch z)
  have e : ({ s1 with heap := sortedHeap (s1.heap.push (seqObj "list" vs.toArray 0)) s1.heap.objs.size vs ((arrOf st').map (·.2)) } : Shared) = { s with heap := sortedHeap (s1.heap.push (seqObj "list" vs.toArray 0)) s1.heap.objs.size vs ((arrOf st').map (·.2)), gens := s1.gens, drawn := s1.drawn, toks := s1.toks } := by
    cases s1
    cases s
    cases o1
    rfl
  show EP X pins σ Q (.ref s1.heap.objs.size) _
  rw [e]
  exact ⟨.ref _, _, J, rfl, q ys _ (b2.trans px) b3 hn⟩
end
/-! ### numbers -/
abbrev s_is_number : Stmt := top 6
abbrev N_is_number : List Str := ["thing"]
abbrev P_is_number : List Str := ["thing"]
theorem sc_is_number : FnScope N_is_number P_is_number (defScope s_is_number) := ⟨rfl, rfl, rfl, by decide +kernel, rfl, by decide +kernel, by decide +kernel⟩
def numB : PyData → Bool
  | .int i => decide (0 ≤ i)
  | _ => false
structure Nu (mg : Str → Option Value) : Prop where
  isinstance : mg "isinstance" = none
  int : mg "int" = none
  bool : mg "bool" = none
  tuple : mg "tuple" = none
  len : mg "len" = none
/-- the type of data -/
def tyD : PyData → String
  | .none => "NoneType"
  | .bool _ => "bool"
  | .int _ => "int"
  | .str _ => "str"
  | .list _ => "list"
  | .tuple _ => "tuple"
  | .dict _ => "dict"
theorem dp_tyD {K : PySem.W.Frag} {H : Hp} {v : V} {d : PyData} (h : Dp K H v d) : TyX K H v (.type (tyD d)) := by
  cases h with
  | non => exact .base .non
  | bl b => exact .base (.bl b)
  | int i => exact .base (.int i)
  | str z => exact .base (.str z)
  | lst h a => exact tyL h
  | tup h a => exact tyT h
def isT : PyData → Bool
  | .tuple _ => true
  | _ => false
def isI : PyData → Bool
  | .int _ => true
  | .bool _ => true
  | _ => false
def isB : PyData → Bool
  | .bool _ => true
  | _ => false
theorem kit_tup {K : PySem.W.Frag} {H : Hp} {v : V} {d : PyData} (h : Dp K H v d) : kitB (tyD d) "tuple" = some (isT d) := by
  cases h with
  | non => exact (show kitB "NoneType" "tuple" = some false by decide +kernel)
  | bl _ => exact (show kitB "bool" "tuple" = some false by decide +kernel)
  | int _ => exact (show kitB "int" "tuple" = some false by decide +kernel)
  | str _ => exact (show kitB "str" "tuple" = some false by decide +kernel)
  | lst _ _ => exact (show kitB "list" "tuple" = some false by decide +kernel)
  | tup _ _ => exact (show kitB "tuple" "tuple" = some true by decide +kernel)
theorem kit_intD {K : PySem.W.Frag} {H : Hp} {v : V} {d : PyData} (h : Dp K H v d) : kitB (tyD d) "int" = some (isI d) := by
  cases h with
  | non => exact (show kitB "NoneType" "int" = some false by decide +kernel)
  | bl _ => exact (show kitB "bool" "int" = some true by decide +kernel)
  | int _ => exact (show kitB "int" "int" = some true by decide +kernel)
  | str _ => exact (show kitB "str" "int" = some false by decide +kernel)
  | lst _ _ => exact (show kitB "list" "int" = some false by decide +kernel)
  | tup _ _ => exact (show kitB "tuple" "int" = some false by decide +kernel)
theorem kit_boolD {K : PySem.W.Frag} {H : Hp} {v : V} {d : PyData} (h : Dp K H v d) : kitB (tyD d) "bool" = some (isB d) := by
  cases h with
  | non => exact (show kitB "NoneType" "bool" = some false by decide +kernel)
  | bl _ => exact (show kitB "bool" "bool" = some true by decide +kernel)
  | int _ => exact (show kitB "int" "bool" = some false by decide +kernel)
  | str _ => exact (show kitB "str" "bool" = some false by decide +kernel)
  | lst _ _ => exact (show kitB "list" "bool" = some false by decide +kernel)
  | tup _ _ => exact (show kitB "tuple" "bool" = some false by decide +kernel)
def spIsNum (K : PySem.W.Frag) : Sp := fun vs H Q _ => ∃ (v : V) (d : PyData), vs = [v] ∧ Dp K H v d ∧ Q (.bl (numB d)) H
section
variable {P : Program} {w : World} {K : PySem.W.Frag} {mg : Str → Option Value} {base : Heap}
theorem ok_is_number (T : Nu mg) (D : Dd K mg "is_number" s_is_number P_is_number) : C8.Cal P w K mg base 1 "is_number" (spIsNum K) [] := by
  refine D.cal sc_is_number (fun vs H Q E h => ?_) (fun f cdv A outer s H vs Q E hr h => ?_)
  · obtain ⟨v, d, rfl, _⟩ := h
    rfl
  · obtain ⟨v, d, rfl, hd, q⟩ := h
    refine ⟨_, (pss_one (ps_ret (pe_and (pe_callB call_isi (by rfl) T.isinstance (by decide +kernel) (pa_cons (pv 0) (pa_cons (pe_bltn (v := .ty "int") rfl T.int (by decide +kernel) rfl) pa_nil))) (pe_and (pe_not (pe_callB call_isi (by rfl) T.isinstance (by decide +kernel) (pa_cons (pv 0) (pa_cons (pe_bltn (v := .ty "bool") rfl T.bool (by decide +kernel) rfl) pa_nil)))) (pe_one (pe_cmpR op_ge (pv 0) pe_int (nomark _))))))), ?_⟩
    refine ⟨_, rfl, v, .ty "int", .type (tyD d), .type "int", _, rfl, .ty "int", dp_tyD hd, kit_ty (kit_intD hd), _, rfl, ?_⟩
    cases hd with
    | int i =>
      refine iteT ?_
      refine ⟨_, rfl, .int i, .ty "bool", .type "int", .type "bool", false, rfl, .ty "bool", .base (.int i), kit_ty (by decide +kernel), _, rfl, _, rfl, iteT ?_⟩
      exact ⟨_, rfl, _, _, rfl, rfl, q⟩
    | bl b =>
      refine iteT ?_
      exact ⟨_, rfl, .bl b, .ty "bool", .type "bool", .type "bool", true, rfl, .ty "bool", .base (.bl b), kit_ty (by decide +kernel), _, rfl, _, rfl, iteF q⟩
    | non => exact iteF q
    | str z => exact iteF q
    | lst h a => exact iteF q
    | tup h a => exact iteF q
end
/-! ### what the words of a grammar's check answer, where all is well -/
abbrev s_is_worth : Stmt := top 7
abbrev N_is_worth : List Str := ["thing"]
abbrev P_is_worth : List Str := ["thing"]
theorem sc_is_worth : FnScope N_is_worth P_is_worth (defScope s_is_worth) := ⟨rfl, rfl, rfl, by decide +kernel, rfl, by decide +kernel, by decide +kernel⟩
abbrev s_is_name : Stmt := top 8
abbrev N_is_name : List Str := ["thing", "sign"]
abbrev P_is_name : List Str := ["thing"]
theorem sc_is_name : FnScope N_is_name P_is_name (defScope s_is_name) := ⟨rfl, rfl, rfl, by decide +kernel, rfl, by decide +kernel, by decide +kernel⟩
abbrev s_is_tuple_of : Stmt := top 9
abbrev N_is_tuple_of : List Str := ["thing", "many"]
abbrev P_is_tuple_of : List Str := ["thing", "many"]
theorem sc_is_tuple_of : FnScope N_is_tuple_of P_is_tuple_of (defScope s_is_tuple_of) := ⟨rfl, rfl, rfl, by decide +kernel, rfl, by decide +kernel, by decide +kernel⟩
abbrev s_is_op : Stmt := top 20
abbrev N_is_op : List Str := ["thing"]
abbrev P_is_op : List Str := ["thing"]
theorem sc_is_op : FnScope N_is_op P_is_op (defScope s_is_op) := ⟨rfl, rfl, rfl, by decide +kernel, rfl, by decide +kernel, by decide +kernel⟩
abbrev s_parts_of : Stmt := top 21
abbrev N_parts_of : List Str := ["op"]
abbrev P_parts_of : List Str := ["op"]
theorem sc_parts_of : FnScope N_parts_of P_parts_of (defScope s_parts_of) := ⟨rfl, rfl, rfl, by decide +kernel, rfl, by decide +kernel, by decide +kernel⟩
abbrev s_op_let : Stmt := top 22
abbrev N_op_let : List Str := ["op", "cap"]
abbrev P_op_let : List Str := ["op", "cap"]
theorem sc_op_let : FnScope N_op_let P_op_let (defScope s_op_let) := ⟨rfl, rfl, rfl, by decide +kernel, rfl, by decide +kernel, by decide +kernel⟩
abbrev s_rows_of : Stmt := top 28
abbrev N_rows_of : List Str := ["part", "rows"]
abbrev P_rows_of : List Str := ["part", "rows"]
theorem sc_rows_of : FnScope N_rows_of P_rows_of (defScope s_rows_of) := ⟨rfl, rfl, rfl, by decide +kernel, rfl, by decide +kernel, by decide +kernel⟩
abbrev s_cap_in : Stmt := top 29
abbrev N_cap_in : List Str := ["cap"]
abbrev P_cap_in : List Str := ["cap"]
theorem sc_cap_in : FnScope N_cap_in P_cap_in (defScope s_cap_in) := ⟨rfl, rfl, rfl, by decide +kernel, rfl, by decide +kernel, by decide +kernel⟩
def LETS : Str := "abcdefghijklmnopqrstuvwxyz"
theorem lets_has (c : Nat) : decide (c ∈ LETS.cps.toList) = isLet c := by
  have e : LETS.cps.toList = [97, 98, 99, 100, 101, 102, 103, 104, 105, 106, 107, 108, 109, 110, 111, 112, 113, 114, 115, 116, 117, 118, 119, 120, 121, 122] := by decide +kernel
  rw [e]
  unfold isLet
  rw [Bool.eq_iff_iff]
  simp only [List.mem_cons, List.not_mem_nil, or_false, decide_eq_true_eq, Bool.and_eq_true]
  omega
inductive Op where
  | copy | plus | less | times | over | rest | least | most | same | under | pick
  deriving DecidableEq
def Op.w : Op → Str
  | .copy => "copy"
  | .plus => "plus"
  | .less => "less"
  | .times => "times"
  | .over => "over"
  | .rest => "rest"
  | .least => "least"
  | .most => "most"
  | .same => "same"
  | .under => "under"
  | .pick => "pick"
def Op.n : Op → Nat
  | .copy => 1
  | .pick => 3
  | _ => 2
def fineb : Op → Bool
  | .copy => true
  | .plus => true
  | .least => true
  | .most => true
  | _ => false
theorem in_let (o : Op) : inV (.str o.w) [.str "copy", .str "plus", .str "least", .str "most"] = fineb o := by cases o <;> decide +kernel
structure DdK (K : PySem.W.Frag) (mg : Str → Option Value) (x : Str) (st : Stmt) (kws : List (Str × V)) : Prop where
  ex : ∃ (f : Addr) (fd : FuncData), FunD K x x (defArgs st) (defBody st) (defScope st) [] kws f fd ∧ mg x = some (.ref f)
/-- the table of ops, in the written part -/
structure PartsAt (K : PySem.W.Frag) (w : World) (PD : Addr) : Prop where
  kd : ∃ es n, KDict K w PD es n
  ops : ∀ o : Op, KDct K w PD o.w (.int o.n) ∧ ∃ u, PySem.W.nsIn K PD o.w = some (some u)
structure Gb (mg : Str → Option Value) : Prop where
  isinstance : mg "isinstance" = none
  int : mg "int" = none
  bool : mg "bool" = none
  str : mg "str" = none
  tuple : mg "tuple" = none
  list : mg "list" = none
  len : mg "len" = none
  all : mg "all" = none
  set : mg "set" = none
  sorted : mg "sorted" = none
  enumerate : mg "enumerate" = none
structure Gg (mg : Str → Option Value) (PD LA : Addr) : Prop where
  bound : ∃ u, mg "BOUND" = some u ∧ RelV (.int 1000000) u
  signs : ∃ u, mg "SIGNS" = some u ∧ RelV (.int 6) u
  letters : ∃ u, mg "LETTERS" = some u ∧ RelV (.str LETS) u
  cap : ∃ u, mg "CAP" = some u ∧ RelV (.int 9) u
  sorts : ∃ u, mg "SORTS" = some u ∧ RelV (.int 4) u
  makings : ∃ u, mg "MAKINGS" = some u ∧ RelV (.int 8) u
  each : ∃ u, mg "EACH" = some u ∧ RelV (.int 2) u
  parts : mg "PARTS" = some (.ref PD)
  let_ : mg "LET" = some (.ref LA)
def worthB : PyData → Bool
  | .int i => decide (0 ≤ i) && decide (i < 1000000)
  | _ => false
def tupN (n : Nat) : PyData → Bool
  | .tuple ds => decide (ds.length = n)
  | _ => false
def spWorth (K : PySem.W.Frag) : Sp := fun vs H Q _ => ∃ (v : V) (d : PyData), vs = [v] ∧ Dp K H v d ∧ Q (.bl (worthB d)) H
def spNameT : Sp := fun vs H Q _ => ∃ w : List Nat, vs = [.str (SX.S w)] ∧ NmOk w ∧ ∀ H', Same H H' → Q (.bl true) H'
def spTupOf (K : PySem.W.Frag) : Sp := fun vs H Q _ => ∃ (v : V) (d : PyData) (n : Nat), vs = [v, .int n] ∧ Dp K H v d ∧ Q (.bl (tupN n d)) H
def spOpT : Sp := fun vs H Q _ => ∃ o : Op, vs = [.str o.w] ∧ Q (.bl true) H
def spPartsT : Sp := fun vs H Q _ => ∃ o : Op, vs = [.str o.w] ∧ Q (.int (o.n : Nat)) H
def spLetT : Sp := fun vs H Q _ => ∃ (o : Op) (c : Nat), vs = [.str o.w, .int c] ∧ (c = 0 ∨ fineb o = true) ∧ Q (.bl true) H
def spRows : Sp := fun vs H Q _ => ∃ (z : Str) (l : Addr) (xs : List V), vs = [.str z, .ref l] ∧ H l = some (.lst xs) ∧ Q (.ref l) H
def spCap : Sp := fun vs H Q _ => ∃ c : Nat, vs = [.int c] ∧ c ≤ 9 ∧ Q (.int c) H
section
variable {P : Program} {w : World} {K : PySem.W.Frag} {mg : Str → Option Value} {base : Heap} {PD LA : Addr}
theorem ok_is_worth (T : Gb mg) (G : Gg mg PD LA) (cis_number : C8.Cal P w K mg base 1 "is_number" (spIsNum K) []) (D : Dd K mg "is_worth" s_is_worth P_is_worth) : C8.Cal P w K mg base 2 "is_worth" (spWorth K) [] := by
  refine D.cal sc_is_worth (fun vs H Q E h => ?_) (fun f cdv A outer s H vs Q E hr h => ?_)
  · obtain ⟨v, d, rfl, _⟩ := h
    rfl
  · obtain ⟨v, d, rfl, hd, q⟩ := h
    refine ⟨_, (pss_one (ps_ret (pe_and (C8.pe_c cis_number hr (by decide) (by rfl) (pa_cons (pv 0) pa_nil)) (pe_one (pe_cmpR op_lt (pv 0) (C8.pe_gc (v := .int 1000000) rfl G.bound) (nomark _)))))), ?_⟩
    refine ⟨_, rfl, v, d, rfl, hd, _, rfl, ?_⟩
    cases hd with
    | int i =>
      by_cases h0 : 0 ≤ i
      · refine ifT (decide_eq_true h0) ?_
        refine ⟨_, rfl, _, _, rfl, rfl, ?_⟩
        have e : worthB (.int i) = decide (i < 1000000) := by
          show (decide (0 ≤ i) && decide (i < 1000000)) = _
          rw [decide_eq_true h0]
          rfl
        rw [e] at q
        exact q
      · refine ifF (decide_eq_false h0) ?_
        have e : worthB (.int i) = false := by
          show (decide (0 ≤ i) && decide (i < 1000000)) = false
          rw [decide_eq_false h0]
          rfl
        rw [e] at q
        exact q
    | bl b => exact iteF q
    | non => exact iteF q
    | str z => exact iteF q
    | lst h a => exact iteF q
    | tup h a => exact iteF q
theorem ok_is_nameT (T : Gb mg) (G : Gg mg PD LA) (D : Dd K mg "is_name" s_is_name P_is_name) : C8.Cal P w K mg base 1 "is_name" spNameT [] := by
  refine D.cal sc_is_name (fun vs H Q E h => ?_) (fun f cdv A outer s H vs Q E hr h => ?_)
  · obtain ⟨w, rfl, _⟩ := h
    rfl
  · obtain ⟨w, rfl, ⟨⟨h2, h3, hlet⟩, h1⟩, q⟩ := h
    have hl2 : (SX.S w).length ≤ sizeLine := by
      rw [SX.S_len]
      exact Nat.le_trans h3 (by decide)
    refine ⟨_, (pss_cons (ps_if (PW.pt (pw_or (pt_not (pt_val (pe_callB call_isi (by rfl) T.isinstance (by decide +kernel) (pa_cons (pv 0) (pa_cons (pe_bltn (v := .ty "str") rfl T.str (by decide +kernel) rfl) pa_nil))))) (pw_or (pt_cmpR op_eq (pv 0) pe_str (nomark _)) (pw_or1 (pt_not (pt_chain op_le op_le pe_int (pe_callB call_len_str (by rfl) T.len PySem.boot_len (pa_cons (pv 0) pa_nil)) (C8.pe_gc (v := .int 6) rfl G.signs)))))))
          (pss_one (ps_ret pe_bl))
          pss_nil)
        (pss_one (ps_ret (pe_callB (cr_all rfl) (by rfl) T.all (by decide +kernel) (pa_cons (pe_lc (own := [("sign", 1)]) (by exact rfl) sc_is_name.nd (pi_str (pv 0)) (blkOk_by (own := [("sign", 1)]) (N := N_is_name) (sc := defScope s_is_name) (by decide +kernel)) (fun _ _ _ _ _ => (pg_name (i := 1) sc_is_name.nd rfl (Or.inl rfl))) (fun _ _ _ _ _ => pts_nil) (fun _ _ _ _ _ => (pe_cmpR op_in_sign (pv 1) (C8.pe_gc (v := .str LETS) rfl G.letters) (by with_unfolding_all rfl)))) pa_nil))))), ?_⟩
    refine ⟨_, rfl, .str (SX.S w), .ty "str", .type "str", .type "str", true, rfl, .ty "str", .base (.str _), kit_ty (by decide +kernel), _, rfl, iteF ?_⟩
    refine ⟨_, rfl, rfl, _, rfl, ?_⟩
    rw [s_own]
    refine ifF (decide_eq_false (fun z => h1 (SX.S_inj (V.str.inj z)))) ?_
    refine ⟨_, rfl, _, rfl, hl2, _, _, rfl, rfl, _, rfl, ifT (decide_eq_true (by rw [SX.S_len]; omega)) ?_⟩
    refine ⟨_, _, rfl, rfl, _, rfl, ?_⟩
    rw [decide_eq_true (show ((SX.S w).length : Int) ≤ 6 by rw [SX.S_len]; omega)]
    refine iteF ?_
    refine ⟨_, rfl, _, rfl, fun D nD => ?_⟩
    refine lc_it walk_str (fun j H' => Same H H' ∧ H' D = some (.lst (((w.take j).map isLet).map V.bl))) ⟨same_upd nD, upd_same⟩ (fun _ _ _ _ => trivial) ?_ ?_
    · rintro j v H3 H4 hj ⟨sm, hD⟩ ⟨rfl, c, hc, rfl⟩
      have hc : w[j]? = some c := by
        have : w.toArray[j]? = some c := hc
        rw [List.getElem?_toArray] at this
        exact this
      refine ⟨rfl, yesT ?_⟩
      refine ⟨_, rfl, c, LETS, rfl, rfl, ?_⟩
      rw [lets_has]
      refine ⟨_, hD, by rw [List.length_map, List.length_map, List.length_take]; exact small1000 (by omega), Same.at_ sm nD, ?_⟩
      rw [upd_same, List.take_add_one, hc]
      simp
    · rintro H3 ⟨sm, hD⟩
      have e0 : (SX.S w).cps.size = w.length := List.size_toArray
      rw [e0, List.take_length] at hD
      refine ⟨D, _, rfl, SqL.of hD, ?_⟩
      have e : (w.map isLet).all id = true := by
        rw [List.all_map]
        exact List.all_eq_true.mpr hlet
      rw [e]
      exact q _ sm
theorem ok_is_tuple_of (T : Gb mg) (D : Dd K mg "is_tuple_of" s_is_tuple_of P_is_tuple_of) : C8.Cal P w K mg base 1 "is_tuple_of" (spTupOf K) [] := by
  refine D.cal sc_is_tuple_of (fun vs H Q E h => ?_) (fun f cdv A outer s H vs Q E hr h => ?_)
  · obtain ⟨v, d, n, rfl, _⟩ := h
    rfl
  · obtain ⟨v, d, n, rfl, hd, q⟩ := h
    refine ⟨_, (pss_one (ps_ret (pe_and (pe_callB call_isi (by rfl) T.isinstance (by decide +kernel) (pa_cons (pv 0) (pa_cons (pe_bltn (v := .ty "tuple") rfl T.tuple (by decide +kernel) rfl) pa_nil))) (pe_one (pe_cmpR op_eq (pe_callB call_len_seq (by rfl) T.len PySem.boot_len (pa_cons (pv 0) pa_nil)) (pv 1) (nomark _)))))), ?_⟩
    refine ⟨_, rfl, v, .ty "tuple", .type (tyD d), .type "tuple", _, rfl, .ty "tuple", dp_tyD hd, kit_ty (kit_tup hd), _, rfl, ?_⟩
    cases hd with
    | tup h a =>
      refine iteT ?_
      refine ⟨_, rfl, _, _, rfl, .inr h, _, rfl, rfl, ?_⟩
      rw [dpAll_len a]
      rename_i ds
      have e : tupN n (.tuple ds) = decide (V.int ((ds.length : Nat) : Int) = V.int (n : Int)) := by
        show decide (ds.length = n) = _
        rw [Bool.eq_iff_iff, decide_eq_true_eq, decide_eq_true_eq]
        exact ⟨fun z => by rw [z], fun z => Int.ofNat.inj (V.int.inj z)⟩
      rw [e] at q
      exact q
    | bl b => exact iteF q
    | non => exact iteF q
    | str z => exact iteF q
    | int z => exact iteF q
    | lst h a => exact iteF q
theorem ok_is_op (T : Gb mg) (G : Gg mg PD LA) (A : PartsAt K w PD) (D : Dd K mg "is_op" s_is_op P_is_op) : C8.Cal P w K mg base 1 "is_op" spOpT [] := by
  obtain ⟨es, n, kd⟩ := A.kd
  refine D.cal sc_is_op (fun vs H Q E h => ?_) (fun f cdv A' outer s H vs Q E hr h => ?_)
  · obtain ⟨o, rfl, _⟩ := h
    rfl
  · obtain ⟨o, rfl, q⟩ := h
    refine ⟨_, (pss_one (ps_ret (pe_and (pe_callB call_isi (by rfl) T.isinstance (by decide +kernel) (pa_cons (pv 0) (pa_cons (pe_bltn (v := .ty "str") rfl T.str (by decide +kernel) rfl) pa_nil))) (pe_one (pe_cmpR (op_in_kd kd) (pv 0) (pe_glob (v := .ref PD) rfl G.parts rfl) (by with_unfolding_all rfl)))))), ?_⟩
    refine ⟨_, rfl, .str o.w, .ty "str", .type "str", .type "str", true, rfl, .ty "str", .base (.str o.w), kit_ty (by decide +kernel), true, rfl, iteT ?_⟩
    obtain ⟨u, hu⟩ := (A.ops o).2
    exact ⟨_, rfl, o.w, some u, rfl, rfl, hu, q⟩
theorem ok_parts_of (G : Gg mg PD LA) (A : PartsAt K w PD) (cis_op : C8.Cal P w K mg base 1 "is_op" spOpT []) (D : Dd K mg "parts_of" s_parts_of P_parts_of) : C8.Cal P w K mg base 2 "parts_of" spPartsT [] := by
  refine D.cal sc_parts_of (fun vs H Q E h => ?_) (fun f cdv A' outer s H vs Q E hr h => ?_)
  · obtain ⟨o, rfl, _⟩ := h
    rfl
  · obtain ⟨o, rfl, q⟩ := h
    refine ⟨_, (pss_cons (ps_if (pt_not (pt_val (C8.pe_c cis_op hr (by decide) (by rfl) (pa_cons (pv 0) pa_nil))))
          (pss_one ps_never)
          pss_nil)
        (pss_one (ps_ret (pe_ix ix_kdict (pe_glob (v := .ref PD) rfl G.parts rfl) (pv 0) (fun _ _ => rfl))))), ?_⟩
    refine ⟨_, rfl, o, rfl, _, rfl, iteF ?_⟩
    exact ⟨_, rfl, PD, _, _, rfl, rfl, (A.ops o).1, q⟩
theorem ok_op_letT (G : Gg mg PD LA) (hL : ∀ H, SqT K H LA [.str "copy", .str "plus", .str "least", .str "most"]) (cis_op : C8.Cal P w K mg base 1 "is_op" spOpT []) (D : DdK K mg "op_let" s_op_let [("cap", .int 0)]) : KCal P w K mg base 2 "op_let" spLetT 1 ["cap"] (fun vs zs => vs ++ zs) := by
  obtain ⟨f, fd, F, g⟩ := D.ex
  have ok : FnOk P w K mg base CX0 2 f fd P_op_let spLetT := by
    refine F.ok sc_op_let (fun vs H Q E h => ?_) (fun cdv A outer s H vs Q E hr h => ?_)
    · obtain ⟨o, c, rfl, _⟩ := h
      rfl
    · obtain ⟨o, c, rfl, hc, q⟩ := h
      refine ⟨_, (pss_cons (ps_if (pt_cmpR op_eq (pv 1) pe_int (nomark _))
            (pss_one (ps_ret (C8.pe_c cis_op hr (by decide) (by rfl) (pa_cons (pv 0) pa_nil))))
            pss_nil)
          (pss_one (ps_ret (pe_cmpR op_in_seq (pv 0) (pe_glob (v := .ref LA) rfl G.let_ rfl) (by with_unfolding_all rfl))))), ?_⟩
      by_cases e : c = 0
      · subst e
        refine ⟨_, rfl, rfl, _, rfl, ifT rfl ?_⟩
        exact ⟨_, rfl, o, rfl, q⟩
      · refine ⟨_, rfl, rfl, _, rfl, ifF (by rw [decide_eq_false]; intro z; have := V.int.inj z; omega) ?_⟩
        refine ⟨_, rfl, LA, _, rfl, .inr (hL H), rfl, rfl, ?_⟩
        show Q (.bl (inV (.str o.w) [.str "copy", .str "plus", .str "least", .str "most"])) H
        rw [in_let, hc.resolve_left e]
        exact q
  have hk1 := kbindsN (ps := P_op_let) F 1 ["cap"] (fun us ws => us ++ ws) (fun h2 h3 => Vals.append h2 h3) (fun kV doc pm an cdv ct us ws hl hw => match us, ws, hl, hw with
    | [_], [_], _, _ => rfl)
  exact ⟨f, fd, _, _, ok, g, F.kp, hk1⟩
theorem ok_rows_of (T : Gb mg) (D : Dd K mg "rows_of" s_rows_of P_rows_of) : C8.Cal P w K mg base 1 "rows_of" spRows [] := by
  refine D.cal sc_rows_of (fun vs H Q E h => ?_) (fun f cdv A outer s H vs Q E hr h => ?_)
  · obtain ⟨z, l, xs, rfl, _⟩ := h
    rfl
  · obtain ⟨z, l, xs, rfl, hl, q⟩ := h
    refine ⟨_, (pss_cons (ps_if (pt_not (pt_val (pe_callB call_isi (by rfl) T.isinstance (by decide +kernel) (pa_cons (pv 1) (pa_cons (pe_bltn (v := .ty "list") rfl T.list (by decide +kernel) rfl) pa_nil)))))
          (pss_one ps_never)
          pss_nil)
        (pss_one (ps_ret (pv 1)))), ?_⟩
    refine ⟨_, rfl, .ref l, .ty "list", .type "list", .type "list", true, rfl, .ty "list", tyL (SqL.of hl), kit_ty (by decide +kernel), _, rfl, iteF ?_⟩
    exact ⟨_, rfl, q⟩
theorem ok_cap_in (T : Gb mg) (G : Gg mg PD LA) (cis_number : C8.Cal P w K mg base 1 "is_number" (spIsNum K) []) (D : Dd K mg "cap_in" s_cap_in P_cap_in) : C8.Cal P w K mg base 2 "cap_in" spCap [] := by
  refine D.cal sc_cap_in (fun vs H Q E h => ?_) (fun f cdv A outer s H vs Q E hr h => ?_)
  · obtain ⟨c, rfl, _⟩ := h
    rfl
  · obtain ⟨c, rfl, hc, q⟩ := h
    refine ⟨_, (pss_cons (ps_if (PW.pt (pw_or (pt_not (pt_val (C8.pe_c cis_number hr (by decide) (by rfl) (pa_cons (pv 0) pa_nil)))) (pw_or1 (pt_cmpR op_gt (pv 0) (C8.pe_gc (v := .int 9) rfl G.cap) (nomark _)))))
          (pss_one ps_never)
          pss_nil)
        (pss_one (ps_ret (pv 0)))), ?_⟩
    refine ⟨_, rfl, _, .int c, rfl, .int _, _, rfl, ?_⟩
    refine ifF (by show (!decide ((0 : Int) ≤ (c : Int))) = false; rw [decide_eq_true (by omega)]; rfl) ?_
    refine ⟨_, rfl, _, _, rfl, rfl, _, rfl, ?_⟩
    refine ifF (decide_eq_false (show ¬ (9 : Int) < (c : Int) by omega)) ?_
    exact ⟨_, rfl, q⟩
end
abbrev s_are_names : Stmt := top 30
abbrev N_are_names : List Str := ["thing", "part"]
abbrev P_are_names : List Str := ["thing"]
theorem sc_are_names : FnScope N_are_names P_are_names (defScope s_are_names) := ⟨rfl, rfl, rfl, by decide +kernel, rfl, by decide +kernel, by decide +kernel⟩
abbrev s_sort_stands : Stmt := top 31
abbrev N_sort_stands : List Str := ["row", "sorts", "sort", "downs", "ups"]
abbrev P_sort_stands : List Str := ["row", "sorts"]
theorem sc_sort_stands : FnScope N_sort_stands P_sort_stands (defScope s_sort_stands) := ⟨rfl, rfl, rfl, by decide +kernel, rfl, by decide +kernel, by decide +kernel⟩
abbrev s_sorts_in : Stmt := top 32
abbrev N_sorts_in : List Str := ["rows", "sorts", "number", "row"]
abbrev P_sorts_in : List Str := ["rows"]
theorem sc_sorts_in : FnScope N_sorts_in P_sorts_in (defScope s_sorts_in) := ⟨rfl, rfl, rfl, by decide +kernel, rfl, by decide +kernel, by decide +kernel⟩
theorem sqT_s {K : PySem.W.Frag} {H H' : Hp} {a : Addr} {xs : List V} (s : Same H H') (h : SqT K H a xs) : SqT K H' a xs := KeepT.seqT (KeepT.of s) h
/-- a table of rows -/
def Tab (K : PySem.W.Frag) (H : Hp) (kvs : List (Key × V)) (ts : List T3) : Prop := Paired (fun kv t => kv.1 = kS t.k ∧ Dp K H kv.2 t.r) kvs ts
theorem Tab.len {K : PySem.W.Frag} {H : Hp} {kvs : List (Key × V)} {ts : List T3} (h : Tab K H kvs ts) : kvs.length = ts.length := paired_len h
theorem Tab.none {K : PySem.W.Frag} {H : Hp} {k : List Nat} : ∀ {kvs : List (Key × V)} {ts : List T3}, Tab K H kvs ts → k ∉ ts.map T3.k → valV kvs (kS k) = none
  | _, _, .nil, _ => rfl
  | _, _, .cons a r, h => by
    rw [List.map_cons, List.mem_cons] at h
    rw [valV_neg (fun z => h (.inl (kS_inj (z.symm.trans a.1))))]
    exact Tab.none r fun z => h (.inr z)
theorem Tab.val {K : PySem.W.Frag} {H : Hp} {t : T3} : ∀ {kvs : List (Key × V)} {ts : List T3}, Tab K H kvs ts → (ts.map T3.k).Nodup → t ∈ ts → ∃ v, valV kvs (kS t.k) = some v ∧ Dp K H v t.r
  | _, _, .nil, _, h => nomatch h
  | _, _, .cons (a := kv) (b := t0) a r, hn, h => by
    rw [List.map_cons, List.nodup_cons] at hn
    rcases List.mem_cons.mp h with rfl | h
    · exact ⟨_, valV_pos a.1, a.2⟩
    · rw [valV_neg (fun z => hn.1 (by rw [← kS_inj (z.symm.trans a.1)]; exact List.mem_map_of_mem h))]
      exact Tab.val r hn.2 h
theorem Tab.any {K : PySem.W.Frag} {H : Hp} {k : List Nat} : ∀ {kvs : List (Key × V)} {ts : List T3}, Tab K H kvs ts → k ∉ ts.map T3.k → (kvs.any fun kv => decide (kv.1 = kS k)) = false
  | _, _, .nil, _ => rfl
  | _, _, .cons a r, h => by
    rw [List.map_cons, List.mem_cons] at h
    rw [List.any_cons, decide_eq_false (fun z => h (.inl (kS_inj (z.symm.trans a.1))))]
    exact Tab.any r fun z => h (.inr z)
theorem Tab.put {K : PySem.W.Frag} {H : Hp} {t : T3} {kvs : List (Key × V)} {ts : List T3} {v : V} (h : Tab K H kvs ts) (hn : t.k ∉ ts.map T3.k) (hv : Dp K H v t.r) : Tab K H (putK kvs (kS t.k) v) (ts ++ [t]) := by
  unfold putK
  rw [h.any hn]
  exact paired_snoc h ⟨rfl, hv⟩
theorem Tab.keep {K : PySem.W.Frag} {H H' : Hp} (k : KeepT H H') {kvs : List (Key × V)} {ts : List T3} (h : Tab K H kvs ts) (hi : ∀ t ∈ ts, imm t.r = true) : Tab K H' kvs ts := by
  unfold Tab at *
  induction h with
  | nil => exact .nil
  | cons a r ih => exact .cons ⟨a.1, dp_imm k a.2 (hi _ (List.mem_cons_self ..))⟩ (ih fun t ht => hi t (List.mem_cons_of_mem _ ht))
theorem sT_imm (r : SRow) : imm (sT r).r = true := up_imm r
theorem mT_imm (r : MRow) : imm (mT r).r = true := by
  show (true && (immAll (r.pt.map strD) && true)) = true
  rw [immAll_map strD_imm]
  rfl
/-- a row of a sort on the heap -/
theorem s_at {K : PySem.W.Frag} {H : Hp} {v : V} {r : SRow} (h : Dp K H v r.d) : ∃ q t1 t2, v = .ref q ∧ SqT K H q [.str (SX.S r.nm), .ref t1, .ref t2] ∧ SqT K H t1 (nmV r.dn) ∧ SqT K H t2 (nmV r.up) := by
  obtain ⟨q, v1, v2, e, hq, h1, h2⟩ := t3_at (t := sT r) h
  cases h1 with
  | tup a1 b1 =>
    cases h2 with
    | tup a2 b2 =>
      rw [names_of b1] at a1
      rw [names_of b2] at a2
      exact ⟨q, _, _, e, hq, a1, a2⟩
theorem gotTx_nd {xs : List Str} (h : xs.Nodup) : (gotTx xs).length = xs.length := ((List.perm_ext_iff_of_nodup (gotTx_nodup xs) h).mpr fun a => gotTx_mem).length_eq
theorem nodup_S {ws : List (List Nat)} (h : ws.Nodup) : (ws.map SX.S).Nodup := by
  induction ws with
  | nil => exact List.nodup_nil
  | cons u us ih =>
    rw [List.nodup_cons] at h
    rw [List.map_cons, List.nodup_cons]
    refine ⟨fun z => ?_, ih h.2⟩
    obtain ⟨x, hx, e⟩ := List.mem_map.mp z
    exact h.1 (SX.S_inj e ▸ hx)
/-- a row's name isn't told before -/
theorem new_name {α : Type} {f : α → List Nat} {rs : List α} {r : α} {j : Nat} (hn : (rs.map f).Nodup) (h : rs[j]? = some r) : f r ∉ (rs.take j).map f := by
  intro z
  obtain ⟨r', hr', e⟩ := List.mem_map.mp z
  have hsp : rs = rs.take j ++ r :: rs.drop (j + 1) := by
    obtain ⟨hj, e1⟩ := List.getElem?_eq_some_iff.mp h
    rw [← e1, ← List.drop_eq_getElem_cons hj, List.take_append_drop]
  rw [hsp, List.map_append, List.map_cons] at hn
  have hd := (List.nodup_append.mp hn).2.2
  exact hd (f r') (List.mem_map_of_mem hr') (f r) (List.mem_cons_self ..) e
theorem row_of {α : Type} {K : PySem.W.Frag} {H : Hp} {f : α → PyData} {sv : List V} {rs : List α} {j : Nat} {x : V} (h : DpAll K H sv (rs.map f)) (hx : sv[j]? = some x) : ∃ r, rs[j]? = some r ∧ Dp K H x (f r) := by
  obtain ⟨dd, hdd, hxd⟩ := dpAll_at h hx
  rw [List.getElem?_map] at hdd
  cases e : rs[j]? with
  | none => rw [e] at hdd; cases hdd
  | some r =>
    rw [e] at hdd
    cases hdd
    exact ⟨r, rfl, hxd⟩
def spAreN (K : PySem.W.Frag) : Sp := fun vs H Q _ => ∃ (q : Addr) (ws : List (List Nat)), vs = [.ref q] ∧ SqT K H q (nmV ws) ∧ ws.length ≤ 2 ∧ (∀ w ∈ ws, NmOk w) ∧ ∀ H', Same H H' → Q (.bl true) H'
def spSortSt (K : PySem.W.Frag) : Sp := fun vs H Q _ => ∃ (rv : V) (sd : Addr) (r : SRow) (kvs : List (Key × V)), vs = [rv, .ref sd] ∧ Dp K H rv r.d ∧ SOk r ∧ H sd = some (.dK kvs) ∧ kvs.length < 4 ∧ valV kvs (kS r.nm) = none ∧ ∀ H', Same H H' → Q (.bl true) H'
def spSortsIn (K : PySem.W.Frag) : Sp := fun vs H Q _ => ∃ (l : Addr) (sv : List V) (rs : List SRow), vs = [.ref l] ∧ H l = some (.lst sv) ∧ DpAll K H sv (rs.map SRow.d) ∧ SortsOk rs ∧
  ∀ (H' : Hp) (d : Addr) (kvs : List (Key × V)), Same H H' → H d = none → H' d = some (.dK kvs) → Tab K H' kvs (rs.map sT) → Q (.ref d) H'
section
variable {P : Program} {w : World} {K : PySem.W.Frag} {mg : Str → Option Value} {base : Heap} {PD LA : Addr}
theorem ok_are_names (T : Gb mg) (G : Gg mg PD LA) (cis_name : C8.Cal P w K mg base 1 "is_name" spNameT []) (D : Dd K mg "are_names" s_are_names P_are_names) : C8.Cal P w K mg base 2 "are_names" (spAreN K) [] := by
  refine D.cal sc_are_names (fun vs H Q E h => ?_) (fun f cdv A outer s H vs Q E hr h => ?_)
  · obtain ⟨q, ws, rfl, _⟩ := h
    rfl
  · obtain ⟨t, ws, rfl, ht, h2, hok, q⟩ := h
    refine ⟨_, (pss_cons (ps_if (PW.pt (pw_or (pt_not (pt_val (pe_callB call_isi (by rfl) T.isinstance (by decide +kernel) (pa_cons (pv 0) (pa_cons (pe_bltn (v := .ty "tuple") rfl T.tuple (by decide +kernel) rfl) pa_nil))))) (pw_or1 (pt_cmpR op_gt (pe_callB call_len_seq (by rfl) T.len PySem.boot_len (pa_cons (pv 0) pa_nil)) (C8.pe_gc (v := .int 2) rfl G.each) (nomark _)))))
          (pss_one (ps_ret pe_bl))
          pss_nil)
        (pss_one (ps_ret (pe_callB (cr_all rfl) (by rfl) T.all (by decide +kernel) (pa_cons (pe_lc (own := [("part", 1)]) (by exact rfl) sc_are_names.nd (pi_tup (pv 0)) (blkOk_by (own := [("part", 1)]) (N := N_are_names) (sc := defScope s_are_names) (by decide +kernel)) (fun _ _ _ _ _ => (pg_name (i := 1) sc_are_names.nd rfl (Or.inl rfl))) (fun _ _ _ _ _ => pts_nil) (fun _ _ _ _ _ => (C8.pe_c cis_name hr (by decide) (by rfl) (pa_cons (pv 1) pa_nil)))) pa_nil))))), ?_⟩
    refine ⟨_, rfl, .ref t, .ty "tuple", .type "tuple", .type "tuple", true, rfl, .ty "tuple", tyT ht, kit_ty (by decide +kernel), _, rfl, iteF ?_⟩
    refine ⟨_, rfl, t, _, rfl, .inr ht, _, _, rfl, rfl, _, rfl, ?_⟩
    refine ifF (decide_eq_false (show ¬ (2 : Int) < ((nmV ws).length : Int) by rw [nmV_len]; omega)) ?_
    refine ⟨_, rfl, t, rfl, ⟨_, ht⟩, fun D nD => ?_⟩
    refine lc_it (walk_tup (K := K) (a := t) (xs := nmV ws)) (fun j H' => Same H H' ∧ H' D = some (.lst ((List.replicate j true).map V.bl))) ⟨same_upd nD, upd_same⟩ (fun j H3 _ hh => sqT_s hh.1 ht) ?_ ?_
    · rintro j v H3 H4 hj ⟨sm, hD⟩ ⟨rfl, hv⟩
      obtain ⟨u, hu, rfl⟩ : ∃ u, ws[j]? = some u ∧ v = V.str (SX.S u) := by
        replace hv : (nmV ws)[j]? = some v := hv
        unfold nmV at hv
        rw [List.getElem?_map] at hv
        cases e : ws[j]? with
        | none => rw [e] at hv; cases hv
        | some u => rw [e] at hv; exact ⟨u, rfl, (Option.some.inj hv).symm⟩
      refine ⟨rfl, yesT ?_⟩
      refine ⟨_, rfl, u, rfl, hok u (List.mem_of_getElem? hu), fun H5 s5 => ?_⟩
      rw [nmV_len] at hj
      refine ⟨_, s5 _ _ hD, by rw [List.length_map, List.length_replicate]; exact small1000 (by omega), Same.at_ (sm.trans s5) nD, ?_⟩
      rw [upd_same, List.replicate_succ', List.map_append]
      rfl
    · rintro H3 ⟨sm, hD⟩
      refine ⟨D, _, rfl, SqL.of hD, ?_⟩
      rw [show (List.replicate (nmV ws).length true).all id = true by simp]
      exact q _ sm
theorem ok_sort_stands (T : Gb mg) (G : Gg mg PD LA) (cis_name : C8.Cal P w K mg base 1 "is_name" spNameT []) (cis_tuple_of : C8.Cal P w K mg base 1 "is_tuple_of" (spTupOf K) []) (care_names : C8.Cal P w K mg base 2 "are_names" (spAreN K) []) (D : Dd K mg "sort_stands" s_sort_stands P_sort_stands) : C8.Cal P w K mg base 3 "sort_stands" (spSortSt K) [] := by
  refine D.cal sc_sort_stands (fun vs H Q E h => ?_) (fun f cdv A outer s H vs Q E hr h => ?_)
  · obtain ⟨rv, sd, r, kvs, rfl, _⟩ := h
    rfl
  · obtain ⟨rv, sd, r, kvs, rfl, hrow, sok, hsd, hl, hno, q⟩ := h
    obtain ⟨q0, t1, t2, rfl, hq, ht1, ht2⟩ := s_at hrow
    refine ⟨_, (pss_cons (ps_if (PW.pt (pw_or (pt_not (pt_val (C8.pe_c cis_tuple_of hr (by decide) (by rfl) (pa_cons (pv 0) (pa_cons pe_int pa_nil))))) (pw_or1 (pt_cmpR op_eq (pe_callB call_lenD (by rfl) T.len PySem.boot_len (pa_cons (pv 1) pa_nil)) (C8.pe_gc (v := .int 4) rfl G.sorts) (nomark _)))))
          (pss_one (ps_ret pe_bl))
          pss_nil)
        (pss_cons (ps_asg (pv 0) (pg_tup rfl (pgs_cons (pg_name (i := 2) sc_sort_stands.nd rfl (Or.inl rfl)) (pgs_cons (pg_name (i := 3) sc_sort_stands.nd rfl (Or.inl rfl)) (pgs_cons (pg_name (i := 4) sc_sort_stands.nd rfl (Or.inl rfl)) pgs_nil)))))
        (pss_cons (ps_if (PW.pt (pw_or (pt_not (pt_val (C8.pe_c cis_name hr (by decide) (by rfl) (pa_cons (pv 2) pa_nil)))) (pw_or (pt_cmp (pc_din (hu_of hr) (pv 2) (pv 1)) (by with_unfolding_all rfl)) (pw_or (pt_not (pt_val (C8.pe_c care_names hr (by decide) (by rfl) (pa_cons (pv 3) pa_nil)))) (pw_or1 (pt_not (pt_val (C8.pe_c care_names hr (by decide) (by rfl) (pa_cons (pv 4) pa_nil)))))))))
          (pss_one (ps_ret pe_bl))
          pss_nil)
        (pss_one (ps_ret (pe_cmpR op_eq (pe_callB cr_lenTx (by rfl) T.len PySem.boot_len (pa_cons (pe_callTy (cr_setTx rfl) (by rfl) T.set (by decide +kernel) (pa_cons (pe_op (r := rCatAny K) op_catAny (pv 3) (pv 4)) pa_nil)) pa_nil)) (pe_callB call_len_seq (by rfl) T.len PySem.boot_len (pa_cons (pe_op (r := rCatAny K) op_catAny (pv 3) (pv 4)) pa_nil)) (nomark _))))))), ?_⟩
    refine ⟨_, rfl, .ref q0, r.d, 3, rfl, hrow, _, rfl, ifF rfl ?_⟩
    refine ⟨_, rfl, sd, kvs, rfl, hsd, rfl, _, rfl, ifF (decide_eq_false (fun z => by have := V.int.inj z; omega)) ?_⟩
    refine ⟨_, rfl, q0, _, rfl, hq, rfl, _, _, rfl, _, _, rfl, _, _, rfl, rfl, ?_⟩
    refine ⟨_, rfl, r.nm, rfl, sok.nm, fun H1 s1 => ⟨_, rfl, ifF rfl ?_⟩⟩
    refine ⟨_, rfl, _, rfl, sd, none, rfl, by have h := DGet.k (k := kS r.nm) (s1 _ _ hsd); rw [hno] at h; exact h, _, rfl, ifF rfl ?_⟩
    refine ⟨_, rfl, t1, r.dn, rfl, sqT_s s1 ht1, sok.d2, fun w hw => sok.all w (List.mem_append_left _ hw), fun H2 s2 => ⟨_, rfl, ifF rfl ?_⟩⟩
    have s12 := s1.trans s2
    refine ⟨_, rfl, t2, r.up, rfl, sqT_s s12 ht2, sok.u2, fun w hw => sok.all w (List.mem_append_right _ hw), fun H3 s3 => ⟨_, rfl, ifF rfl ?_⟩⟩
    have s13 := s12.trans s3
    have hd2 := sok.d2
    have hu2 := sok.u2
    refine ⟨_, rfl, _, rfl, t1, t2, nmV r.dn, nmV r.up, rfl, rfl, sqT_s s13 ht1, sqT_s s13 ht2, by rw [nmV_len, nmV_len]; exact Nat.le_trans (show _ ≤ 4 by omega) (by decide), fun H4 p4 s4 h4 => ?_⟩
    have e4 : nmV r.dn ++ nmV r.up = ((r.dn ++ r.up).map SX.S).map V.str := by
      unfold nmV
      rw [List.map_map, List.map_append]
      rfl
    rw [e4] at h4
    refine ⟨p4, _, rfl, .inr h4, by rw [List.length_map, List.length_append]; omega, fun p5 n5 => ?_⟩
    refine ⟨p5, _, rfl, upd_same, ?_⟩
    have s5 := s13.trans (s4.trans (same_upd (o := setTxO w p5 (gotTx ((r.dn ++ r.up).map SX.S))) n5))
    refine ⟨_, rfl, _, rfl, t1, t2, nmV r.dn, nmV r.up, rfl, rfl, sqT_s s5 ht1, sqT_s s5 ht2, by rw [nmV_len, nmV_len]; exact Nat.le_trans (show _ ≤ 4 by omega) (by decide), fun H6 p6 s6 h6 => ?_⟩
    refine ⟨p6, _, rfl, .inr h6, rfl, ?_⟩
    have e6 : decide (V.int (((gotTx ((r.dn ++ r.up).map SX.S)).length : Nat) : Int) = V.int (((nmV r.dn ++ nmV r.up).length : Nat) : Int)) = true := by
      exact decide_eq_true (congrArg (fun n : Nat => V.int (n : Int)) (by rw [gotTx_nd (nodup_S sok.nd), e4, List.length_map (f := V.str)]))
    rw [e6]
    exact q _ (s5.trans s6)
theorem ok_sorts_in (T : Gb mg) (crows_of : C8.Cal P w K mg base 1 "rows_of" spRows []) (csort_stands : C8.Cal P w K mg base 3 "sort_stands" (spSortSt K) []) (D : Dd K mg "sorts_in" s_sorts_in P_sorts_in) : C8.Cal P w K mg base 4 "sorts_in" (spSortsIn K) [] := by
  refine D.cal sc_sorts_in (fun vs H Q E h => ?_) (fun f cdv A outer s H vs Q E hr h => ?_)
  · obtain ⟨l, sv, rs, rfl, _⟩ := h
    rfl
  · obtain ⟨l, sv, rs, rfl, hl, hsv, sok, q⟩ := h
    refine ⟨_, (pss_cons (ps_set (i := 1) sc_sorts_in.nd rfl (Or.inl rfl) pe_dnewK)
        (pss_cons (ps_for PassesOwn.never rfl (pi_enum (by rfl) T.enumerate (pa_cons (C8.pe_c crows_of hr (by decide) (by rfl) (pa_cons pe_str (pa_cons (pv 0) pa_nil))) pa_nil)) (pg_tup rfl (pgs_cons (pg_name (i := 2) sc_sorts_in.nd rfl (Or.inl rfl)) (pgs_cons (pg_name (i := 3) sc_sorts_in.nd rfl (Or.inl rfl)) pgs_nil)))
          (pss_cons (ps_if (pt_not (pt_val (C8.pe_c csort_stands hr (by decide) (by rfl) (pa_cons (pv 3) (pa_cons (pv 1) pa_nil)))))
          (pss_one ps_never)
          pss_nil)
        (pss_one (ps_dput (hu_of hr) (pv 1) (pe_ix (r := rIxT K) ix_tup (pv 3) pe_int (fun _ _ => rfl)) (pe_slice (r := rSlAny K) sl_any (pv 3) (po_some pe_int) po_none) (by rfl)))))
        (pss_one (ps_ret (pv 1))))), ?_⟩
    refine fun d nd => ?_
    have s1 := same_upd (o := .dK []) nd
    have lsv := dpAll_len hsv
    rw [List.length_map] at lsv
    have h4 := sok.le
    refine ⟨_, rfl, "sorts", l, sv, rfl, s1 _ _ hl, l, sv, rfl, SqL.of (s1 _ _ hl), ?_⟩
    refine for_it walk_enum (fun j σ Y => ∃ (y2 y3 : Option V) (kvs : List (Key × V)), σ = [some (.ref l), some (.ref d), y2, y3] ∧ Same H Y ∧ Y d = some (.dK kvs) ∧ Tab K Y kvs ((rs.take j).map sT))
      ⟨none, none, [], rfl, s1, upd_same, .nil⟩ (fun i σ Y _ ⟨_, _, _, _, h, _⟩ => SqL.of (h _ _ hl)) ?_ ?_
    · rintro j v σ Y0 Y hj ⟨y2, y3, kvs, rfl, s2, hd, htab⟩ ⟨TT, xx, yy, rfl, nT, rfl, ex, ey⟩
      cases ex
      obtain ⟨r, hr1, hrow⟩ := row_of (dpAll_same s2 hsv) ey
      have sN := same_upd (o := .tup [.int ((j : Nat) : Int), yy]) nT
      have hjr : j < rs.length := (List.getElem?_eq_some_iff.mp hr1).1
      have hno := new_name (f := SRow.nm) sok.nd hr1
      have hno' : r.nm ∉ ((rs.take j).map sT).map T3.k := by
        rw [List.map_map]
        exact hno
      have lk := htab.len
      rw [List.length_map, List.length_take] at lk
      refine ⟨TT, _, rfl, SqT.of upd_same, rfl, _, _, rfl, _, _, rfl, rfl, ?_⟩
      refine ⟨_, rfl, _, rfl, yy, d, r, kvs, rfl, dp_same sN hrow, sok.ok r (List.mem_of_getElem? hr1), sN _ _ hd, by omega, htab.none hno', fun Y2 sY => ⟨_, rfl, iteF ?_⟩⟩
      have sA := sN.trans sY
      obtain ⟨q0, v1, v2, rfl, hq, hd1, hd2⟩ := t3_at (t := sT r) (dp_same sA hrow)
      refine ⟨_, rfl, _, rfl, q0, _, rfl, hq, fun Y3 p3 sp3 hp3 => ?_⟩
      have sB := sA.trans sp3
      refine ⟨_, rfl, _, rfl, q0, _, 0, .str (SX.S r.nm), rfl, rfl, sqT_s sp3 hq, atI_nat (j := 0) rfl, ?_⟩
      have hv3 : Dp K Y3 (.ref p3) (sT r).r := .tup hp3 (.cons (dp_same sp3 hd1) (.cons (dp_same sp3 hd2) .nil))
      have hd3 := sB _ _ hd
      have hpt := (htab.keep (KeepT.of sB) (fun t ht => by obtain ⟨r', _, e⟩ := List.mem_map.mp ht; rw [← e]; exact sT_imm r')).put (t := sT r) hno' hv3
      refine ⟨d, _, rfl, DPut.k (k := kS r.nm) hd3 (small1000 (by omega)), _, _, _, rfl, ?_, upd_same, ?_⟩
      · exact Same.at_ (s2.trans sB) nd
      · rw [List.take_add_one, hr1, List.map_append]
        exact hpt.keep (KeepT.at_ hd3 dK_no) (fun t ht => by
          rcases List.mem_append.mp ht with ht | ht
          · obtain ⟨r', _, e⟩ := List.mem_map.mp ht
            rw [← e]
            exact sT_imm r'
          · rw [List.mem_singleton.mp ht]
            exact sT_imm r)
    · rintro σ Y ⟨y2, y3, kvs, rfl, s2, hd, htab⟩
      rw [lsv, List.take_length] at htab
      exact ⟨_, rfl, q _ d kvs s2 nd hd htab⟩
end
abbrev s_making_stands : Stmt := top 33
abbrev N_making_stands : List Str := ["row", "makings", "sorts", "making", "sort", "parts", "each"]
abbrev P_making_stands : List Str := ["row", "makings", "sorts"]
theorem sc_making_stands : FnScope N_making_stands P_making_stands (defScope s_making_stands) := ⟨rfl, rfl, rfl, by decide +kernel, rfl, by decide +kernel, by decide +kernel⟩
abbrev s_makings_in : Stmt := top 34
abbrev N_makings_in : List Str := ["rows", "sorts", "makings", "number", "row"]
abbrev P_makings_in : List Str := ["rows", "sorts"]
theorem sc_makings_in : FnScope N_makings_in P_makings_in (defScope s_makings_in) := ⟨rfl, rfl, rfl, by decide +kernel, rfl, by decide +kernel, by decide +kernel⟩
def spMakSt (K : PySem.W.Frag) : Sp := fun vs H Q _ => ∃ (rv : V) (md sd : Addr) (mr : MRow) (kvs skv : List (Key × V)), vs = [rv, .ref md, .ref sd] ∧ Dp K H rv mr.d ∧ NmOk mr.nm ∧ (∀ k ∈ mr.places, NmOk k) ∧ mr.pt.length ≤ 2 ∧ H md = some (.dK kvs) ∧ kvs.length < 8 ∧ valV kvs (kS mr.nm) = none ∧ H sd = some (.dK skv) ∧ (∀ k ∈ mr.places, (valV skv (kS k)).isSome = true) ∧ ∀ H', Same H H' → Q (.bl true) H'
def spMaksIn (K : PySem.W.Frag) : Sp := fun vs H Q _ => ∃ (l sd : Addr) (mv : List V) (rs : List SRow) (ms : List MRow) (skv : List (Key × V)), vs = [.ref l, .ref sd] ∧ H l = some (.lst mv) ∧ DpAll K H mv (ms.map MRow.d) ∧ SortsOk rs ∧ (ms.map MRow.nm).Nodup ∧ (∀ m ∈ ms, MOk rs m) ∧ ms.length ≤ 8 ∧ H sd = some (.dK skv) ∧ Tab K H skv (rs.map sT) ∧
  ∀ (H' : Hp) (d : Addr) (kvs : List (Key × V)), Same H H' → H d = none → H' d = some (.dK kvs) → Tab K H' kvs (ms.map mT) → Q (.ref d) H'
theorem places_ok {rs : List SRow} {mr : MRow} (so : SortsOk rs) (m : MOk rs mr) : ∀ k ∈ mr.places, NmOk k := fun k hk => by
  obtain ⟨r, hr, rfl⟩ := m.so k hk
  exact (so.ok r hr).nm
theorem sT_k (rs : List SRow) : (rs.map sT).map T3.k = rs.map SRow.nm := by
  rw [List.map_map]
  rfl
theorem mT_k (rs : List MRow) : (rs.map mT).map T3.k = rs.map MRow.nm := by
  rw [List.map_map]
  rfl
section
variable {P : Program} {w : World} {K : PySem.W.Frag} {mg : Str → Option Value} {base : Heap} {PD LA : Addr}
theorem ok_making_stands (T : Gb mg) (G : Gg mg PD LA) (cis_name : C8.Cal P w K mg base 1 "is_name" spNameT []) (cis_tuple_of : C8.Cal P w K mg base 1 "is_tuple_of" (spTupOf K) []) (care_names : C8.Cal P w K mg base 2 "are_names" (spAreN K) []) (D : Dd K mg "making_stands" s_making_stands P_making_stands) : C8.Cal P w K mg base 3 "making_stands" (spMakSt K) [] := by
  refine D.cal sc_making_stands (fun vs H Q E h => ?_) (fun f cdv A outer s H vs Q E hr h => ?_)
  · obtain ⟨rv, md, sd, mr, kvs, skv, rfl, _⟩ := h
    rfl
  · obtain ⟨rv, md, sd, mr, kvs, skv, rfl, hrow, hnm, hpl, hp2, hmd, hl, hno, hsd, hin, q⟩ := h
    obtain ⟨q0, t, rfl, hq, ht⟩ := row_at hrow
    refine ⟨_, (pss_cons (ps_if (PW.pt (pw_or (pt_not (pt_val (C8.pe_c cis_tuple_of hr (by decide) (by rfl) (pa_cons (pv 0) (pa_cons pe_int pa_nil))))) (pw_or1 (pt_cmpR op_eq (pe_callB call_lenD (by rfl) T.len PySem.boot_len (pa_cons (pv 1) pa_nil)) (C8.pe_gc (v := .int 8) rfl G.makings) (nomark _)))))
          (pss_one (ps_ret pe_bl))
          pss_nil)
        (pss_cons (ps_asg (pv 0) (pg_tup rfl (pgs_cons (pg_name (i := 3) sc_making_stands.nd rfl (Or.inl rfl)) (pgs_cons (pg_name (i := 4) sc_making_stands.nd rfl (Or.inl rfl)) (pgs_cons (pg_name (i := 5) sc_making_stands.nd rfl (Or.inl rfl)) pgs_nil)))))
        (pss_cons (ps_if (PW.pt (pw_or (pt_not (pt_val (C8.pe_c cis_name hr (by decide) (by rfl) (pa_cons (pv 3) pa_nil)))) (pw_or (pt_cmp (pc_din (hu_of hr) (pv 3) (pv 1)) (by with_unfolding_all rfl)) (pw_or1 (pt_not (pt_val (C8.pe_c care_names hr (by decide) (by rfl) (pa_cons (pv 5) pa_nil))))))))
          (pss_one (ps_ret pe_bl))
          pss_nil)
        (pss_one (ps_ret (pe_and (C8.pe_c cis_name hr (by decide) (by rfl) (pa_cons (pv 4) pa_nil)) (pe_one (pe_callB (cr_all rfl) (by rfl) T.all (by decide +kernel) (pa_cons (pe_lc (own := [("each", 6)]) (by exact rfl) sc_making_stands.nd (pi_tup (pe_tup (pa_cons (pv 4) (StX.pa_star (pv 5) pa_nil)))) (blkOk_by (own := [("each", 6)]) (N := N_making_stands) (sc := defScope s_making_stands) (by decide +kernel)) (fun _ _ _ _ _ => (pg_name (i := 6) sc_making_stands.nd rfl (Or.inl rfl))) (fun _ _ _ _ _ => pts_nil) (fun _ _ _ _ _ => (pe_cmp (pc_din (hu_of hr) (pv 6) (pv 2)) (by with_unfolding_all rfl)))) pa_nil))))))))), ?_⟩
    refine ⟨_, rfl, .ref q0, mr.d, 3, rfl, hrow, _, rfl, ifF rfl ?_⟩
    refine ⟨_, rfl, md, kvs, rfl, hmd, rfl, _, rfl, ifF (decide_eq_false (fun z => by have := V.int.inj z; omega)) ?_⟩
    refine ⟨_, rfl, q0, _, rfl, hq, rfl, _, _, rfl, _, _, rfl, _, _, rfl, rfl, ?_⟩
    refine ⟨_, rfl, mr.nm, rfl, hnm, fun H1 s1 => ⟨_, rfl, ifF rfl ?_⟩⟩
    refine ⟨_, rfl, _, rfl, md, none, rfl, by have h := DGet.k (k := kS mr.nm) (s1 _ _ hmd); rw [hno] at h; exact h, _, rfl, ifF rfl ?_⟩
    refine ⟨_, rfl, t, mr.pt, rfl, sqT_s s1 ht, hp2, fun w hw => hpl w (List.mem_cons_of_mem _ hw), fun H2 s2 => ⟨_, rfl, ifF rfl ?_⟩⟩
    have s12 := s1.trans s2
    refine ⟨_, rfl, mr.so, rfl, hpl _ (List.mem_cons_self ..), fun H3 s3 => ⟨_, rfl, iteT ?_⟩⟩
    have s13 := s12.trans s3
    refine ⟨_, rfl, _, rfl, t, nmV mr.pt, rfl, .inl (sqT_s s13 ht), ?_⟩
    have e4 : V.str (SX.S mr.so) :: (nmV mr.pt ++ []) = nmV mr.places := by
      rw [List.append_nil]
      rfl
    have lpl : mr.places.length ≤ 3 := by
      show mr.pt.length + 1 ≤ 3
      omega
    refine ⟨?_, fun p4 n4 => ?_⟩
    · show (V.str (SX.S mr.so) :: (nmV mr.pt ++ [])).length ≤ _
      rw [e4, nmV_len]
      exact Nat.le_trans lpl (by decide)
    have s4 := s13.trans (same_upd (o := .tup (V.str (SX.S mr.so) :: (nmV mr.pt ++ []))) n4)
    have h4 : SqT K (upd H3 p4 (.tup (V.str (SX.S mr.so) :: (nmV mr.pt ++ [])))) p4 (V.str (SX.S mr.so) :: (nmV mr.pt ++ [])) := SqT.of upd_same
    show (∃ p, V.ref p4 = V.ref p ∧ _)
    refine ⟨p4, rfl, ⟨_, h4⟩, fun D nD => ?_⟩
    refine lc_it (walk_tup (K := K) (a := p4) (xs := V.str (SX.S mr.so) :: (nmV mr.pt ++ []))) (fun j H' => Same (upd H3 p4 (.tup (V.str (SX.S mr.so) :: (nmV mr.pt ++ [])))) H' ∧ H' D = some (.lst ((List.replicate j true).map V.bl))) ⟨same_upd nD, upd_same⟩ (fun j H5 _ hh => sqT_s hh.1 h4) ?_ ?_
    · rintro j v H5 H6 hj ⟨sm, hD⟩ ⟨rfl, hv⟩
      obtain ⟨u, hu, rfl⟩ : ∃ u, mr.places[j]? = some u ∧ v = V.str (SX.S u) := by
        replace hv : (V.str (SX.S mr.so) :: (nmV mr.pt ++ []))[j]? = some v := hv
        rw [e4] at hv
        unfold nmV at hv
        rw [List.getElem?_map] at hv
        cases e : mr.places[j]? with
        | none => rw [e] at hv; cases hv
        | some u => rw [e] at hv; exact ⟨u, rfl, (Option.some.inj hv).symm⟩
      refine ⟨rfl, yesT ?_⟩
      have s6 := s4.trans sm
      refine ⟨_, rfl, _, rfl, sd, _, rfl, DGet.k (k := kS u) (s6 _ _ hsd), ?_⟩
      rw [hin u (List.mem_of_getElem? hu)]
      rw [e4, nmV_len] at hj
      refine ⟨_, hD, by rw [List.length_map, List.length_replicate]; exact small1000 (by omega), Same.at_ sm nD, ?_⟩
      rw [upd_same, List.replicate_succ', List.map_append]
      rfl
    · rintro H5 ⟨sm, hD⟩
      refine ⟨D, _, rfl, SqL.of hD, ?_⟩
      rw [show (List.replicate (V.str (SX.S mr.so) :: (nmV mr.pt ++ [])).length true).all id = true by simp]
      exact q _ (s4.trans sm)
theorem ok_makings_in (T : Gb mg) (crows_of : C8.Cal P w K mg base 1 "rows_of" spRows []) (cmaking_stands : C8.Cal P w K mg base 3 "making_stands" (spMakSt K) []) (D : Dd K mg "makings_in" s_makings_in P_makings_in) : C8.Cal P w K mg base 4 "makings_in" (spMaksIn K) [] := by
  refine D.cal sc_makings_in (fun vs H Q E h => ?_) (fun f cdv A outer s H vs Q E hr h => ?_)
  · obtain ⟨l, sd, mv, rs, ms, skv, rfl, _⟩ := h
    rfl
  · obtain ⟨l, sd, sv, rs0, rs, skv, rfl, hl, hsv, sok, hnd, hok, h8, hsd, hstab, q⟩ := h
    refine ⟨_, (pss_cons (ps_set (i := 2) sc_makings_in.nd rfl (Or.inl rfl) pe_dnewK)
        (pss_cons (ps_for PassesOwn.never rfl (pi_enum (by rfl) T.enumerate (pa_cons (C8.pe_c crows_of hr (by decide) (by rfl) (pa_cons pe_str (pa_cons (pv 0) pa_nil))) pa_nil)) (pg_tup rfl (pgs_cons (pg_name (i := 3) sc_makings_in.nd rfl (Or.inl rfl)) (pgs_cons (pg_name (i := 4) sc_makings_in.nd rfl (Or.inl rfl)) pgs_nil)))
          (pss_cons (ps_if (pt_not (pt_val (C8.pe_c cmaking_stands hr (by decide) (by rfl) (pa_cons (pv 4) (pa_cons (pv 2) (pa_cons (pv 1) pa_nil))))))
          (pss_one ps_never)
          pss_nil)
        (pss_one (ps_dput (hu_of hr) (pv 2) (pe_ix (r := rIxT K) ix_tup (pv 4) pe_int (fun _ _ => rfl)) (pe_slice (r := rSlAny K) sl_any (pv 4) (po_some pe_int) po_none) (by rfl)))))
        (pss_one (ps_ret (pv 2))))), ?_⟩
    refine fun d nd => ?_
    have s1 := same_upd (o := .dK []) nd
    have lsv := dpAll_len hsv
    rw [List.length_map] at lsv
    refine ⟨_, rfl, "makings", l, sv, rfl, s1 _ _ hl, l, sv, rfl, SqL.of (s1 _ _ hl), ?_⟩
    refine for_it walk_enum (fun j σ Y => ∃ (y2 y3 : Option V) (kvs : List (Key × V)), σ = [some (.ref l), some (.ref sd), some (.ref d), y2, y3] ∧ Same H Y ∧ Y d = some (.dK kvs) ∧ Tab K Y kvs ((rs.take j).map mT))
      ⟨none, none, [], rfl, s1, upd_same, .nil⟩ (fun i σ Y _ ⟨_, _, _, _, h, _⟩ => SqL.of (h _ _ hl)) ?_ ?_
    · rintro j v σ Y0 Y hj ⟨y2, y3, kvs, rfl, s2, hd, htab⟩ ⟨TT, xx, yy, rfl, nT, rfl, ex, ey⟩
      cases ex
      obtain ⟨r, hr1, hrow⟩ := row_of (dpAll_same s2 hsv) ey
      have sN := same_upd (o := .tup [.int ((j : Nat) : Int), yy]) nT
      have hjr : j < rs.length := (List.getElem?_eq_some_iff.mp hr1).1
      have hno' : r.nm ∉ ((rs.take j).map mT).map T3.k := by
        rw [mT_k]
        exact new_name (f := MRow.nm) hnd hr1
      have mok := hok r (List.mem_of_getElem? hr1)
      have lk := htab.len
      rw [List.length_map, List.length_take] at lk
      refine ⟨TT, _, rfl, SqT.of upd_same, rfl, _, _, rfl, _, _, rfl, rfl, ?_⟩
      refine ⟨_, rfl, _, rfl, _, rfl, yy, d, sd, r, kvs, skv, rfl, dp_same sN hrow, mok.nm, places_ok sok mok, mok.p2, sN _ _ hd, by omega, htab.none hno', sN _ _ (s2 _ _ hsd), fun k hk => ?_, fun Y2 sY => ⟨_, rfl, iteF ?_⟩⟩
      · obtain ⟨r', hr', rfl⟩ := mok.so k hk
        obtain ⟨v', e', _⟩ := hstab.val (t := sT r') (by rw [sT_k]; exact sok.nd) (List.mem_map_of_mem hr')
        rw [show kS r'.nm = kS (sT r').k from rfl, e']
        rfl
      have sA := sN.trans sY
      obtain ⟨q0, v1, v2, rfl, hq, hd1, hd2⟩ := t3_at (t := mT r) (dp_same sA hrow)
      refine ⟨_, rfl, _, rfl, q0, _, rfl, hq, fun Y3 p3 sp3 hp3 => ?_⟩
      have sB := sA.trans sp3
      refine ⟨_, rfl, _, rfl, q0, _, 0, .str (SX.S r.nm), rfl, rfl, sqT_s sp3 hq, atI_nat (j := 0) rfl, ?_⟩
      have hv3 : Dp K Y3 (.ref p3) (mT r).r := .tup hp3 (.cons (dp_same sp3 hd1) (.cons (dp_same sp3 hd2) .nil))
      have hd3 := sB _ _ hd
      have hpt := (htab.keep (KeepT.of sB) (fun t ht => by obtain ⟨r', _, e⟩ := List.mem_map.mp ht; rw [← e]; exact mT_imm r')).put (t := mT r) hno' hv3
      refine ⟨d, _, rfl, DPut.k (k := kS r.nm) hd3 (small1000 (by omega)), _, _, _, rfl, ?_, upd_same, ?_⟩
      · exact Same.at_ (s2.trans sB) nd
      · rw [List.take_add_one, hr1, List.map_append]
        exact hpt.keep (KeepT.at_ hd3 dK_no) (fun t ht => by
          rcases List.mem_append.mp ht with ht | ht
          · obtain ⟨r', _, e⟩ := List.mem_map.mp ht
            rw [← e]
            exact mT_imm r'
          · rw [List.mem_singleton.mp ht]
            exact mT_imm r)
    · rintro σ Y ⟨y2, y3, kvs, rfl, s2, hd, htab⟩
      rw [lsv, List.take_length] at htab
      exact ⟨_, rfl, q _ d kvs s2 nd hd htab⟩
end
abbrev s_worths_at : Stmt := top 35
abbrev N_worths_at : List Str := ["place", "form", "sorts", "places"]
abbrev P_worths_at : List Str := ["place", "form", "sorts"]
theorem sc_worths_at : FnScope N_worths_at P_worths_at (defScope s_worths_at) := ⟨rfl, rfl, rfl, by decide +kernel, rfl, by decide +kernel, by decide +kernel⟩
abbrev s_is_at : Stmt := top 36
abbrev N_is_at : List Str := ["thing"]
abbrev P_is_at : List Str := ["thing"]
theorem sc_is_at : FnScope N_is_at P_is_at (defScope s_is_at) := ⟨rfl, rfl, rfl, by decide +kernel, rfl, by decide +kernel, by decide +kernel⟩
abbrev s_is_kept : Stmt := top 37
abbrev N_is_kept : List Str := ["thing", "form", "sorts", "downs", "ups"]
abbrev P_is_kept : List Str := ["thing", "form", "sorts"]
theorem sc_is_kept : FnScope N_is_kept P_is_kept (defScope s_is_kept) := ⟨rfl, rfl, rfl, by decide +kernel, rfl, by decide +kernel, by decide +kernel⟩
abbrev s_is_target : Stmt := top 38
abbrev N_is_target : List Str := ["thing", "form", "sorts", "downs", "ups"]
abbrev P_is_target : List Str := ["thing", "form", "sorts"]
theorem sc_is_target : FnScope N_is_target P_is_target (defScope s_is_target) := ⟨rfl, rfl, rfl, by decide +kernel, rfl, by decide +kernel, by decide +kernel⟩
abbrev s_is_operand : Stmt := top 39
abbrev N_is_operand : List Str := ["thing", "form", "sorts", "downs", "ups"]
abbrev P_is_operand : List Str := ["thing", "form", "sorts"]
theorem sc_is_operand : FnScope N_is_operand P_is_operand (defScope s_is_operand) := ⟨rfl, rfl, rfl, by decide +kernel, rfl, by decide +kernel, by decide +kernel⟩
/-- a making's form and the sorts' table, on the heap -/
structure Fm (K : PySem.W.Frag) (H : Hp) (fv : V) (sd : Addr) (rs : List SRow) (mr : MRow) : Prop where
  f : Dp K H fv (mT mr).r
  t : ∃ skv, H sd = some (.dK skv) ∧ Tab K H skv (rs.map sT)
  so : SortsOk rs
  mo : MOk rs mr
theorem Fm.same {K : PySem.W.Frag} {H H' : Hp} {fv : V} {sd : Addr} {rs : List SRow} {mr : MRow} (s : Same H H') (h : Fm K H fv sd rs mr) : Fm K H' fv sd rs mr := by
  obtain ⟨skv, h1, h2⟩ := h.t
  exact ⟨dp_same s h.f, ⟨skv, s _ _ h1, h2.keep (KeepT.of s) (fun t ht => by obtain ⟨r', _, e⟩ := List.mem_map.mp ht; rw [← e]; exact sT_imm r')⟩, h.so, h.mo⟩
theorem Fm.at_ {K : PySem.W.Frag} {H : Hp} {fv : V} {sd : Addr} {rs : List SRow} {mr : MRow} (h : Fm K H fv sd rs mr) : ∃ q t, fv = .ref q ∧ SqT K H q [.str (SX.S mr.so), .ref t] ∧ SqT K H t (nmV mr.pt) := by
  cases h.f with
  | tup hS hA =>
    cases hA with
    | cons a1 hA =>
      cases hA with
      | cons a2 hA =>
        cases hA
        cases a1
        cases a2 with
        | tup hS2 hA2 =>
          rw [names_of hA2] at hS2
          exact ⟨_, _, rfl, hS, hS2⟩
theorem Fm.get {K : PySem.W.Frag} {H : Hp} {fv : V} {sd : Addr} {rs : List SRow} {mr : MRow} (h : Fm K H fv sd rs mr) {r : SRow} (hr : r ∈ rs) : ∃ (p t1 t2 : Addr), DGet H sd (.str (SX.S r.nm)) (some (.ref p)) ∧ SqT K H p [.ref t1, .ref t2] ∧ SqT K H t1 (nmV r.dn) ∧ SqT K H t2 (nmV r.up) := by
  obtain ⟨skv, h1, h2⟩ := h.t
  obtain ⟨v, e, hd⟩ := h2.val (t := sT r) (by rw [sT_k]; exact h.so.nd) (List.mem_map_of_mem hr)
  have hg := DGet.k (k := kS r.nm) h1
  rw [show kS r.nm = kS (sT r).k from rfl, e] at hg
  cases hd with
  | tup hS hA =>
    cases hA with
    | cons a1 hA =>
      cases hA with
      | cons a2 hA =>
        cases hA
        cases a1 with
        | tup b1 c1 =>
          cases a2 with
          | tup b2 c2 =>
            rw [names_of c1] at b1
            rw [names_of c2] at b2
            exact ⟨_, _, _, hg, hS, b1, b2⟩
theorem sp_at {K : PySem.W.Frag} {H : Hp} {v : V} {p : Nat} {w : List Nat} (h : Dp K H v (En.d (.sp p w))) : ∃ q, v = .ref q ∧ SqT K H q [.str "at", .int (p : Nat), .str (SX.S w)] := by
  cases h with
  | tup hS hA =>
    cases hA with
    | cons a1 hA =>
      cases hA with
      | cons a2 hA =>
        cases hA with
        | cons a3 hA =>
          cases hA
          cases a1
          cases a2
          cases a3
          exact ⟨_, rfl, hS⟩
theorem kp_at {K : PySem.W.Frag} {H : Hp} {v : V} {w : List Nat} (h : Dp K H v (En.d (.kept w))) : ∃ q, v = .ref q ∧ SqT K H q [.str "kept", .str (SX.S w)] := by
  cases h with
  | tup hS hA =>
    cases hA with
    | cons a1 hA =>
      cases hA with
      | cons a2 hA =>
        cases hA
        cases a1
        cases a2
        exact ⟨_, rfl, hS⟩
theorem num_at {K : PySem.W.Frag} {H : Hp} {v : V} {n : Nat} (h : Dp K H v (Od.d (.num n))) : ∃ q, v = .ref q ∧ SqT K H q [.str "number", .int (n : Nat)] := by
  cases h with
  | tup hS hA =>
    cases hA with
    | cons a1 hA =>
      cases hA with
      | cons a2 hA =>
        cases hA
        cases a1
        cases a2
        exact ⟨_, rfl, hS⟩
theorem let_sm {c : Nat} (h : isLet c = true) : c < 128 := by
  unfold isLet at h
  simp only [Bool.and_eq_true, decide_eq_true_eq] at h
  omega
theorem own_sh : SeqAt.shaped (Od.d .own) = true := by decide +kernel
theorem kept_sh {w : List Nat} (h : NmOk w) : SeqAt.shaped (En.d (.kept w)) = true := by
  obtain ⟨h1, h2⟩ := en_lay (e := .kept w) (fun c hc => let_sm (h.1.2.2 c hc))
  unfold SeqAt.shaped
  rw [h1, h2]
  rfl
theorem kept_own (w : List Nat) : PyData.eqv (En.d (.kept w)) (Od.d .own) = false := by
  show ((Str.ofString "kept" == Str.ofString "own") && PyData.eqvAll [strD w] []) = false
  rw [show (Str.ofString "kept" == Str.ofString "own") = false by decide +kernel]
  rfl
def isAtO : Od → Bool
  | .en (.sp _ _) => true
  | _ => false
def spWorthsAt (K : PySem.W.Frag) : Sp := fun vs H Q _ => ∃ (p : Nat) (fv : V) (sd : Addr) (rs : List SRow) (mr : MRow) (r : SRow), vs = [.int p, fv, .ref sd] ∧ Fm K H fv sd rs mr ∧ r ∈ rs ∧ mr.places[p]? = some r.nm ∧
  ∀ (H' : Hp) (q t1 t2 : Addr), Same H H' → SqT K H' q [.ref t1, .ref t2] → SqT K H' t1 (nmV r.dn) → SqT K H' t2 (nmV r.up) → Q (.ref q) H'
def spIsAt (K : PySem.W.Frag) : Sp := fun vs H Q _ => ∃ (v : V) (o : Od), vs = [v] ∧ Dp K H v o.d ∧ Q (.bl (isAtO o)) H
def spIsKept (K : PySem.W.Frag) : Sp := fun vs H Q _ => ∃ (v fv : V) (sd : Addr) (rs : List SRow) (mr : MRow) (w : List Nat), vs = [v, fv, .ref sd] ∧ Dp K H v (En.d (.kept w)) ∧ Fm K H fv sd rs mr ∧ KeptOk rs mr w ∧ ∀ H', Same H H' → Q (.bl true) H'
def spIsTg (K : PySem.W.Frag) : Sp := fun vs H Q _ => ∃ (v fv : V) (sd : Addr) (rs : List SRow) (mr : MRow) (e : En), vs = [v, fv, .ref sd] ∧ Dp K H v e.d ∧ Fm K H fv sd rs mr ∧ TgOk rs mr e ∧ ∀ H', Same H H' → Q (.bl true) H'
def spIsOd (K : PySem.W.Frag) : Sp := fun vs H Q _ => ∃ (v fv : V) (sd : Addr) (rs : List SRow) (mr : MRow) (o : Od), vs = [v, fv, .ref sd] ∧ Dp K H v o.d ∧ Fm K H fv sd rs mr ∧ OdOk rs mr o ∧ ∀ H', Same H H' → Q (.bl true) H'
section
variable {P : Program} {w : World} {K : PySem.W.Frag} {mg : Str → Option Value} {base : Heap} {PD LA : Addr}
theorem ok_worths_at (T : Gb mg) (cis_number : C8.Cal P w K mg base 1 "is_number" (spIsNum K) []) (D : Dd K mg "worths_at" s_worths_at P_worths_at) : C8.Cal P w K mg base 2 "worths_at" (spWorthsAt K) [] := by
  refine D.cal sc_worths_at (fun vs H Q E h => ?_) (fun f cdv A outer s H vs Q E hr h => ?_)
  · obtain ⟨p, fv, sd, rs, mr, r, rfl, _⟩ := h
    rfl
  · obtain ⟨p, fv, sd, rs, mr, r, rfl, fm, hr1, hp, q⟩ := h
    obtain ⟨fq, t, rfl, hf, ht⟩ := fm.at_
    refine ⟨_, (pss_cons (ps_set (i := 3) sc_worths_at.nd rfl (Or.inl rfl) (pe_tup (pa_cons (pe_ix ix_tup (pv 1) pe_int (fun _ _ => rfl)) (StX.pa_star (pe_ix ix_tup (pv 1) pe_int (fun _ _ => rfl)) pa_nil))))
        (pss_cons (ps_if (PW.pt (pw_or (pt_not (pt_val (C8.pe_c cis_number hr (by decide) (by rfl) (pa_cons (pv 0) pa_nil)))) (pw_or1 (pt_cmpR op_ge (pv 0) (pe_callB call_len_seq (by rfl) T.len PySem.boot_len (pa_cons (pv 3) pa_nil)) (nomark _)))))
          (pss_one (ps_ret (pe_tup (pa_cons (pe_tup pa_nil) (pa_cons (pe_tup pa_nil) pa_nil)))))
          pss_nil)
        (pss_one (ps_ret (pe_dget (hu_of hr) (pv 2) (pe_ix ix_tup (pv 3) (pv 0) (fun _ _ => rfl)) (fun _ _ => rfl)))))), ?_⟩
    refine ⟨_, rfl, fq, _, 0, .str (SX.S mr.so), rfl, rfl, hf, atI_nat (j := 0) rfl, ?_⟩
    refine ⟨_, rfl, fq, _, 1, .ref t, rfl, rfl, hf, atI_nat (j := 1) rfl, t, nmV mr.pt, rfl, .inl ht, ?_⟩
    have e4 : V.str (SX.S mr.so) :: (nmV mr.pt ++ []) = nmV mr.places := by
      rw [List.append_nil]
      rfl
    have h2 := fm.mo.p2
    have lpl : mr.places.length ≤ 3 := by
      show mr.pt.length + 1 ≤ 3
      omega
    refine ⟨?_, fun p4 n4 => ?_⟩
    · show (V.str (SX.S mr.so) :: (nmV mr.pt ++ [])).length ≤ _
      rw [e4, nmV_len]
      exact Nat.le_trans lpl (by decide)
    have s4 := same_upd (o := .tup (V.str (SX.S mr.so) :: (nmV mr.pt ++ []))) n4
    have h4 : SqT K (upd H p4 (.tup (V.str (SX.S mr.so) :: (nmV mr.pt ++ [])))) p4 (nmV mr.places) := by
      rw [← e4]
      exact SqT.of upd_same
    have hpl : p < mr.places.length := (List.getElem?_eq_some_iff.mp hp).1
    refine ⟨_, rfl, _, .int p, rfl, .int _, _, rfl, ?_⟩
    refine ifF (by show (!decide ((0 : Int) ≤ (p : Int))) = false; rw [decide_eq_true (by omega)]; rfl) ?_
    refine ⟨_, rfl, _, rfl, p4, _, rfl, .inr h4, _, _, rfl, rfl, _, rfl, ?_⟩
    refine ifF (decide_eq_false (show ¬ ((nmV mr.places).length : Int) ≤ (p : Int) by rw [nmV_len]; omega)) ?_
    obtain ⟨pq, t1, t2, hg, hpq, h1, h2⟩ := (fm.same s4).get hr1
    exact ⟨_, rfl, _, rfl, _, rfl, p4, _, p, .str (SX.S r.nm), rfl, rfl, h4, atI_nat (nmV_at hp), sd, .ref pq, rfl, hg, q _ pq t1 t2 s4 hpq h1 h2⟩
theorem ok_is_at (cis_tuple_of : C8.Cal P w K mg base 1 "is_tuple_of" (spTupOf K) []) (D : Dd K mg "is_at" s_is_at P_is_at) : C8.Cal P w K mg base 2 "is_at" (spIsAt K) [] := by
  refine D.cal sc_is_at (fun vs H Q E h => ?_) (fun f cdv A outer s H vs Q E hr h => ?_)
  · obtain ⟨v, o, rfl, _⟩ := h
    rfl
  · obtain ⟨v, o, rfl, hd, q⟩ := h
    refine ⟨_, (pss_one (ps_ret (pe_and (C8.pe_c cis_tuple_of hr (by decide) (by rfl) (pa_cons (pv 0) (pa_cons pe_int pa_nil))) (pe_one (pe_cmpR op_eq (pe_ix ix_tup (pv 0) pe_int (fun _ _ => rfl)) pe_str (nomark _)))))), ?_⟩
    refine ⟨_, rfl, v, o.d, 3, rfl, hd, _, rfl, ?_⟩
    cases o with
    | own => exact iteF q
    | num n => exact iteF q
    | en e =>
      cases e with
      | kept w => exact iteF q
      | sp p w =>
        obtain ⟨q0, rfl, hq⟩ := sp_at hd
        refine iteT ?_
        exact ⟨_, rfl, q0, _, 0, .str "at", rfl, rfl, hq, atI_nat (j := 0) rfl, rfl, q⟩
theorem ok_is_kept (cis_tuple_of : C8.Cal P w K mg base 1 "is_tuple_of" (spTupOf K) []) (cis_name : C8.Cal P w K mg base 1 "is_name" spNameT []) (D : Dd K mg "is_kept" s_is_kept P_is_kept) : C8.Cal P w K mg base 2 "is_kept" (spIsKept K) [] := by
  refine D.cal sc_is_kept (fun vs H Q E h => ?_) (fun f cdv A outer s H vs Q E hr h => ?_)
  · obtain ⟨v, fv, sd, rs, mr, w, rfl, _⟩ := h
    rfl
  · obtain ⟨v, fv, sd, rs, mr, w, rfl, hd, fm, hk, q⟩ := h
    obtain ⟨fq, t, rfl, hf, ht⟩ := fm.at_
    obtain ⟨q0, rfl, hq⟩ := kp_at hd
    obtain ⟨r, hr1, hrn⟩ := fm.mo.so mr.so (List.mem_cons_self ..)
    obtain ⟨p, t1, t2, hg, hp, h1, h2⟩ := fm.get hr1
    rw [hrn] at hg
    refine ⟨_, (pss_cons (ps_if (PW.pt (pw_or (pt_not (pt_val (C8.pe_c cis_tuple_of hr (by decide) (by rfl) (pa_cons (pv 0) (pa_cons pe_int pa_nil))))) (pw_or1 (pt_cmpR op_ne (pe_ix ix_tup (pv 0) pe_int (fun _ _ => rfl)) pe_str (nomark _)))))
          (pss_one (ps_ret pe_bl))
          pss_nil)
        (pss_cons (ps_asg (pe_dget (hu_of hr) (pv 2) (pe_ix ix_tup (pv 1) pe_int (fun _ _ => rfl)) (fun _ _ => rfl)) (pg_tup rfl (pgs_cons (pg_name (i := 3) sc_is_kept.nd rfl (Or.inl rfl)) (pgs_cons (pg_name (i := 4) sc_is_kept.nd rfl (Or.inl rfl)) pgs_nil))))
        (pss_one (ps_ret (pe_and (C8.pe_c cis_name hr (by decide) (by rfl) (pa_cons (pe_ix ix_tup (pv 0) pe_int (fun _ _ => rfl)) pa_nil)) (pe_one (pe_cmpR op_notIn_seq (pe_ix ix_tup (pv 0) pe_int (fun _ _ => rfl)) (pe_op (r := rCatAny K) op_catAny (pv 3) (pv 4)) (by with_unfolding_all rfl)))))))), ?_⟩
    refine ⟨_, rfl, .ref q0, _, 2, rfl, hd, _, rfl, ifF rfl ?_⟩
    refine ⟨_, rfl, q0, _, 0, .str "kept", rfl, rfl, hq, atI_nat (j := 0) rfl, rfl, _, rfl, ifF rfl ?_⟩
    refine ⟨_, rfl, _, rfl, fq, _, 0, .str (SX.S mr.so), rfl, rfl, hf, atI_nat (j := 0) rfl, sd, .ref p, rfl, hg, ?_⟩
    refine ⟨p, _, rfl, hp, rfl, _, _, rfl, _, _, rfl, rfl, ?_⟩
    refine ⟨_, rfl, q0, _, 1, .str (SX.S w), rfl, rfl, hq, atI_nat (j := 1) rfl, w, rfl, hk.1, fun H1 s1 => ⟨_, rfl, iteT ?_⟩⟩
    have sok := fm.so.ok r hr1
    have hd2 := sok.d2
    have hu2 := sok.u2
    refine ⟨_, rfl, q0, _, 1, .str (SX.S w), rfl, rfl, sqT_s s1 hq, atI_nat (j := 1) rfl, ?_⟩
    refine ⟨_, rfl, _, rfl, t1, t2, nmV r.dn, nmV r.up, rfl, rfl, sqT_s s1 h1, sqT_s s1 h2, by rw [nmV_len, nmV_len]; exact Nat.le_trans (show _ ≤ 4 by omega) (by decide), fun H4 p4 s4 h4 => ?_⟩
    have e4 : nmV r.dn ++ nmV r.up = nmV (r.dn ++ r.up) := by
      unfold nmV
      rw [List.map_append]
    rw [e4] at h4
    refine ⟨p4, _, rfl, .inr h4, rfl, flat_names _, ?_⟩
    show Q (.bl (!inV (.str (SX.S w)) (nmV (r.dn ++ r.up)))) H4
    rw [in_names, decide_eq_false (hk.2 r hr1 hrn)]
    exact q _ (s1.trans s4)
theorem ok_is_target (cis_at : C8.Cal P w K mg base 2 "is_at" (spIsAt K) []) (cis_kept : C8.Cal P w K mg base 2 "is_kept" (spIsKept K) []) (cworths_at : C8.Cal P w K mg base 2 "worths_at" (spWorthsAt K) []) (D : Dd K mg "is_target" s_is_target P_is_target) : C8.Cal P w K mg base 3 "is_target" (spIsTg K) [] := by
  refine D.cal sc_is_target (fun vs H Q E h => ?_) (fun f cdv A outer s H vs Q E hr h => ?_)
  · obtain ⟨v, fv, sd, rs, mr, e, rfl, _⟩ := h
    rfl
  · obtain ⟨v, fv, sd, rs, mr, e, rfl, hd, fm, hk, q⟩ := h
    refine ⟨_, (pss_cons (ps_if (pt_not (pt_val (C8.pe_c cis_at hr (by decide) (by rfl) (pa_cons (pv 0) pa_nil))))
          (pss_one (ps_ret (C8.pe_c cis_kept hr (by decide) (by rfl) (pa_cons (pv 0) (pa_cons (pv 1) (pa_cons (pv 2) pa_nil))))))
          pss_nil)
        (pss_cons (ps_asg (C8.pe_c cworths_at hr (by decide) (by rfl) (pa_cons (pe_ix ix_tup (pv 0) pe_int (fun _ _ => rfl)) (pa_cons (pv 1) (pa_cons (pv 2) pa_nil)))) (pg_tup rfl (pgs_cons (pg_name (i := 3) sc_is_target.nd rfl (Or.inl rfl)) (pgs_cons (pg_name (i := 4) sc_is_target.nd rfl (Or.inl rfl)) pgs_nil))))
        (pss_one (ps_ret (pe_cmpR op_in_seq (pe_ix ix_tup (pv 0) pe_int (fun _ _ => rfl)) (pe_ifExp (pt_cmpR op_eq (pe_ix ix_tup (pv 0) pe_int (fun _ _ => rfl)) pe_int (nomark _)) (pv 4) (pv 3)) (by with_unfolding_all rfl)))))), ?_⟩
    refine ⟨_, rfl, v, .en e, rfl, hd, _, rfl, ?_⟩
    cases e with
    | kept w =>
      refine iteT ?_
      exact ⟨_, rfl, _, rfl, _, rfl, v, fv, sd, rs, mr, w, rfl, hd, fm, hk, q⟩
    | sp p w =>
      refine iteF ?_
      obtain ⟨q0, rfl, hq⟩ := sp_at hd
      obtain ⟨k, r, hpk, hr1, rfl, hw⟩ := hk
      refine ⟨_, rfl, q0, _, 1, .int (p : Nat), rfl, rfl, hq, atI_nat (j := 1) rfl, _, rfl, _, rfl, p, fv, sd, rs, mr, r, rfl, fm, hr1, hpk, fun H1 q1 t1 t2 s1 hq1 ht1 ht2 => ?_⟩
      refine ⟨q1, _, rfl, hq1, rfl, _, _, rfl, _, _, rfl, rfl, ?_⟩
      refine ⟨_, rfl, q0, _, 2, .str (SX.S w), rfl, rfl, sqT_s s1 hq, atI_nat (j := 2) rfl, ?_⟩
      refine ⟨_, rfl, q0, _, 1, .int (p : Nat), rfl, rfl, sqT_s s1 hq, atI_nat (j := 1) rfl, rfl, _, rfl, ?_⟩
      by_cases hp : p = 0
      · subst hp
        refine ifT rfl ?_
        refine ⟨_, rfl, t2, _, rfl, .inr ht2, rfl, flat_names _, ?_⟩
        show Q (.bl (inV (.str (SX.S w)) (nmV r.up))) H1
        rw [in_names, decide_eq_true (show w ∈ r.up from hw)]
        exact q _ s1
      · refine ifF (decide_eq_false (fun z => hp (by have := V.int.inj z; omega))) ?_
        refine ⟨_, rfl, t1, _, rfl, .inr ht1, rfl, flat_names _, ?_⟩
        show Q (.bl (inV (.str (SX.S w)) (nmV r.dn))) H1
        rw [decide_eq_false hp] at hw
        rw [in_names, decide_eq_true (show w ∈ r.dn from hw)]
        exact q _ s1
theorem ok_is_operand (cis_at : C8.Cal P w K mg base 2 "is_at" (spIsAt K) []) (cis_kept : C8.Cal P w K mg base 2 "is_kept" (spIsKept K) []) (cworths_at : C8.Cal P w K mg base 2 "worths_at" (spWorthsAt K) []) (cis_tuple_of : C8.Cal P w K mg base 1 "is_tuple_of" (spTupOf K) []) (cis_worth : C8.Cal P w K mg base 2 "is_worth" (spWorth K) []) (D : Dd K mg "is_operand" s_is_operand P_is_operand) : C8.Cal P w K mg base 3 "is_operand" (spIsOd K) [] := by
  refine D.cal sc_is_operand (fun vs H Q E h => ?_) (fun f cdv A outer s H vs Q E hr h => ?_)
  · obtain ⟨v, fv, sd, rs, mr, o, rfl, _⟩ := h
    rfl
  · obtain ⟨v, fv, sd, rs, mr, o, rfl, hd, fm, hk, q⟩ := h
    refine ⟨_, (pss_cons (ps_if (pt_val (C8.pe_c cis_at hr (by decide) (by rfl) (pa_cons (pv 0) pa_nil)))
          (pss_cons (ps_asg (C8.pe_c cworths_at hr (by decide) (by rfl) (pa_cons (pe_ix ix_tup (pv 0) pe_int (fun _ _ => rfl)) (pa_cons (pv 1) (pa_cons (pv 2) pa_nil)))) (pg_tup rfl (pgs_cons (pg_name (i := 3) sc_is_operand.nd rfl (Or.inl rfl)) (pgs_cons (pg_name (i := 4) sc_is_operand.nd rfl (Or.inl rfl)) pgs_nil))))
        (pss_one (ps_ret (pe_cmpR op_in_seq (pe_ix ix_tup (pv 0) pe_int (fun _ _ => rfl)) (pe_ifExp (pt_cmpR op_eq (pe_ix ix_tup (pv 0) pe_int (fun _ _ => rfl)) pe_int (nomark _)) (pv 3) (pv 4)) (by with_unfolding_all rfl)))))
          pss_nil)
        (pss_cons (ps_if (PW.pt (pw_and (pt_val (C8.pe_c cis_tuple_of hr (by decide) (by rfl) (pa_cons (pv 0) (pa_cons pe_int pa_nil)))) (pw_and1 (pt_cmpR op_eq (pe_ix ix_tup (pv 0) pe_int (fun _ _ => rfl)) pe_str (nomark _)))))
          (pss_one (ps_ret (C8.pe_c cis_worth hr (by decide) (by rfl) (pa_cons (pe_ix ix_tup (pv 0) pe_int (fun _ _ => rfl)) pa_nil))))
          pss_nil)
        (pss_one (ps_ret (pe_or (pe_cmpR (op_eqD hr.units) (pv 0) (pe_tup (pa_cons pe_str pa_nil)) (nomark _)) (pe_one (C8.pe_c cis_kept hr (by decide) (by rfl) (pa_cons (pv 0) (pa_cons (pv 1) (pa_cons (pv 2) pa_nil)))))))))), ?_⟩
    refine ⟨_, rfl, v, o, rfl, hd, _, rfl, ?_⟩
    cases o with
    | own =>
      refine iteF ?_
      refine ⟨_, rfl, v, _, 2, rfl, hd, _, rfl, ifF rfl ?_⟩
      refine ⟨_, rfl, by show 1 ≤ sizeLine; decide, fun p n => ?_⟩
      have s1 := same_upd (o := .tup [.str "own"]) n
      refine ⟨Od.d .own, Od.d .own, dp_same s1 hd, .tup (SqT.of upd_same) (.cons (.str _) .nil), own_sh, own_sh, _, rfl, ?_⟩
      rw [SeqAt.eqv_refl _ (SeqAt.canLay_of_shaped own_sh)]
      exact iteT (q _ s1)
    | num n =>
      refine iteF ?_
      obtain ⟨q0, rfl, hq⟩ := num_at hd
      refine ⟨_, rfl, .ref q0, _, 2, rfl, hd, _, rfl, ifT rfl ?_⟩
      refine ⟨_, rfl, q0, _, 0, .str "number", rfl, rfl, hq, atI_nat (j := 0) rfl, rfl, _, rfl, ifT rfl ?_⟩
      refine ⟨_, rfl, q0, _, 1, .int (n : Nat), rfl, rfl, hq, atI_nat (j := 1) rfl, _, .int (n : Nat), rfl, .int _, ?_⟩
      have e : worthB (.int (n : Nat)) = true := by
        show (decide ((0 : Int) ≤ (n : Int)) && decide ((n : Int) < 1000000)) = true
        have hk : n < 1000000 := hk
        rw [decide_eq_true (by omega), decide_eq_true (by omega)]
        rfl
      rw [e]
      exact q _ (Same.refl H)
    | en e =>
      cases e with
      | kept w =>
        refine iteF ?_
        obtain ⟨q0, rfl, hq⟩ := kp_at hd
        refine ⟨_, rfl, .ref q0, _, 2, rfl, hd, _, rfl, ifT rfl ?_⟩
        refine ⟨_, rfl, q0, _, 0, .str "kept", rfl, rfl, hq, atI_nat (j := 0) rfl, rfl, _, rfl, ifF rfl ?_⟩
        refine ⟨_, rfl, by show 1 ≤ sizeLine; decide, fun p n => ?_⟩
        have s1 := same_upd (o := .tup [.str "own"]) n
        refine ⟨En.d (.kept w), Od.d .own, dp_same s1 hd, .tup (SqT.of upd_same) (.cons (.str _) .nil), kept_sh hk.1, own_sh, _, rfl, ?_⟩
        rw [show PyData.eqv (En.d (.kept w)) (Od.d .own) = false from kept_own w]
        refine iteF ?_
        exact ⟨_, rfl, _, rfl, _, rfl, .ref q0, fv, sd, rs, mr, w, rfl, dp_same s1 hd, fm.same s1, hk, fun H' s' => q _ (s1.trans s')⟩
      | sp p w =>
        refine iteT ?_
        obtain ⟨q0, rfl, hq⟩ := sp_at hd
        obtain ⟨k, r, hpk, hr1, rfl, hw⟩ := hk
        refine ⟨_, rfl, q0, _, 1, .int (p : Nat), rfl, rfl, hq, atI_nat (j := 1) rfl, _, rfl, _, rfl, p, fv, sd, rs, mr, r, rfl, fm, hr1, hpk, fun H1 q1 t1 t2 s1 hq1 ht1 ht2 => ?_⟩
        refine ⟨q1, _, rfl, hq1, rfl, _, _, rfl, _, _, rfl, rfl, ?_⟩
        refine ⟨_, rfl, q0, _, 2, .str (SX.S w), rfl, rfl, sqT_s s1 hq, atI_nat (j := 2) rfl, ?_⟩
        refine ⟨_, rfl, q0, _, 1, .int (p : Nat), rfl, rfl, sqT_s s1 hq, atI_nat (j := 1) rfl, rfl, _, rfl, ?_⟩
        by_cases hp : p = 0
        · subst hp
          refine ifT rfl ?_
          refine ⟨_, rfl, t1, _, rfl, .inr ht1, rfl, flat_names _, ?_⟩
          show Q (.bl (inV (.str (SX.S w)) (nmV r.dn))) H1
          rw [in_names, decide_eq_true (show w ∈ r.dn from hw)]
          exact q _ s1
        · refine ifF (decide_eq_false (fun z => hp (by have := V.int.inj z; omega))) ?_
          refine ⟨_, rfl, t2, _, rfl, .inr ht2, rfl, flat_names _, ?_⟩
          show Q (.bl (inV (.str (SX.S w)) (nmV r.up))) H1
          rw [decide_eq_false hp] at hw
          rw [in_names, decide_eq_true (show w ∈ r.up from hw)]
          exact q _ s1
end
/-! ### a list is made longer by a tuple -/
open PySem PyProof in
theorem ext_tup (l : Addr) (items : Array Value) (n : Nat) (b : Addr) (items2 : Array Value) (n2 : Nat) (dd : Option Addr) (sl : Array (Option Value)) (hs0 : ¬(!items.isEmpty && Builtin.List.listTooLong (items.size + items2.size)) = true) (hs1 : items.size ≤ sizeLine) (hs2 : items.size + items2.size ≤ sizeLine + 1) :
    Meets (Builtin.«list.extend» ⟨[.ref l, .ref b], []⟩) (fun _ R s => s.heap.get? l = some { cls := .type "list", dict := none, data := .seq items n, slots := #[] } ∧ s.heap.get? b = some { cls := .type "tuple", dict := dd, data := .seq items2 n2, slots := sl } ∧ R (.ok (.ret Value.none)) { s with heap := s.heap.update l (Obj.mapSeq fun x => x ++ items2), toks := s.toks }) :=
  .of_wp fun prog w A R s h => by
    obtain ⟨hp, g, d, tk, os⟩ := s; obtain ⟨hl, hb, h⟩ := h; have f1 := AutoSeq1.idx_int; have f2 := AutoSeq1.sub_tuple_tuple; have f3 := AutoSeq1.sub_list_list; have f4 := AutoSeq1.sub_tuple_list; have f5 := AutoSeq1.sub_list_tuple;
    have hz' : (items ++ items2).size ≤ sizeLine + 1 := by rw [Array.size_append]; exact hs2
    wp_walk using (wpAny_updateSeq hl rfl (hz := hs1) (_hz' := hz')), wpAny_loadPart' hl, wpAny_loadPart' hb; exact ⟨_, rfl, h⟩
section
variable {X : Cx}
def rExtendT (K : PySem.W.Frag) : V → List V → Hp → VK → Prop := fun x vs H Q => ∃ l b xs zs, x = .ref l ∧ vs = [.ref b] ∧ H l = some (.lst xs) ∧ SqT K H b zs ∧ xs.length + zs.length ≤ sizeLine ∧ Q .non (upd H l (.lst (xs ++ zs)))
theorem mt_extendT : MtM X "list.extend" (rExtendT X.K) := by
  intro pins s σ H x vs v us Q I rx rv h
  obtain ⟨l, b, xs, zs, rfl, rfl, hH, hB, hz, q⟩ := h
  cases rx
  obtain ⟨u, rfl, ru⟩ := rv.one
  cases ru
  obtain ⟨z, its, n, r, hl, e⟩ := I.lstM hH
  obtain ⟨its2, ⟨c2, d2, dt2, sl2⟩, n2, r2, e2, rfl, rfl⟩ := sqT_at I.hok I.kIn hB
  have l2 := r2.length
  have hsz : its.toArray.size + its2.toArray.size ≤ sizeLine := by rw [List.size_toArray, List.size_toArray]; omega
  have hlong : ¬ (!its.toArray.isEmpty && Builtin.List.listTooLong (its.toArray.size + its2.toArray.size)) = true := by
    rw [notLongL hsz, Bool.and_false]
    exact Bool.false_ne_true
  refine call_meets PySem.F.slot_list_extend ⟨_, e, rfl⟩ PySem.F.entry_list_extend (PySem.F.args_list_extend_2 _ _)
    (ext_tup l its.toArray n b its2.toArray n2 d2 sl2 hlong (by rw [List.size_toArray]; omega) (by omega)) ⟨e, e2, ?_⟩
  refine ⟨.non, _, I.lset (its' := its ++ its2) hH e (by simp) (r.append r2) ?_, rfl, q⟩
  rw [List.length_append]
  omega
end
abbrev s_kept_by : Stmt := top 40
abbrev N_kept_by : List Str := ["making", "rules", "terms", "whose", "target", "term"]
abbrev P_kept_by : List Str := ["making", "rules"]
theorem sc_kept_by : FnScope N_kept_by P_kept_by (defScope s_kept_by) := ⟨rfl, rfl, rfl, by decide +kernel, rfl, by decide +kernel, by decide +kernel⟩
theorem hu9 {n : Nat} (h : n + 65 < cLine) : n + 9 < cLine := by omega
/-! ### the table of rules -/
def RRow.kd (r : RRow) : PyData := .tuple [strD r.ma, r.tg.d]
def RRow.vd (r : RRow) : PyData := .tuple [strD r.op, .tuple (r.os.map Od.d)]
theorem RRow.kd_imm (r : RRow) : Thr.imm r.kd = true := by
  show (true && (Thr.imm r.tg.d && true)) = true
  rw [r.tg.imm]
  rfl
theorem RRow.vd_imm (r : RRow) : Thr.imm r.vd = true := by
  show (true && (immAll (r.os.map Od.d) && true)) = true
  rw [immAll_map Od.imm]
  rfl
theorem en_key {e e' : En} (h : keyD e.d = keyD e'.d) : e = e' := by
  cases e with
  | sp p w =>
    cases e' with
    | sp p' w' =>
      have h1 : NestedKey.tup [.text "at", .num (p : Int), .text (SX.S w)] = NestedKey.tup [.text "at", .num (p' : Int), .text (SX.S w')] := h
      simp only [NestedKey.tup.injEq, List.cons.injEq, NestedKey.num.injEq, NestedKey.text.injEq, and_true, true_and] at h1
      rw [SX.S_inj h1.2, Int.ofNat.inj h1.1]
    | kept w' =>
      have h1 : NestedKey.tup [.text "at", .num (p : Int), .text (SX.S w)] = NestedKey.tup [.text "kept", .text (SX.S w')] := h
      simp at h1
  | kept w =>
    cases e' with
    | sp p' w' =>
      have h1 : NestedKey.tup [.text "kept", .text (SX.S w)] = NestedKey.tup [.text "at", .num (p' : Int), .text (SX.S w')] := h
      simp at h1
    | kept w' =>
      have h1 : NestedKey.tup [.text "kept", .text (SX.S w)] = NestedKey.tup [.text "kept", .text (SX.S w')] := h
      simp only [NestedKey.tup.injEq, List.cons.injEq, NestedKey.text.injEq, and_true, true_and] at h1
      rw [SX.S_inj h1]
theorem kd_inj {ma ma' : List Nat} {e e' : En} (h : keyD (.tuple [strD ma, e.d]) = keyD (.tuple [strD ma', e'.d])) : ma = ma' ∧ e = e' := by
  have h1 : NestedKey.tup [.text (SX.S ma), keyD e.d] = NestedKey.tup [.text (SX.S ma'), keyD e'.d] := h
  simp only [NestedKey.tup.injEq, List.cons.injEq, NestedKey.text.injEq, and_true] at h1
  exact ⟨SX.S_inj h1.1, en_key h1.2⟩
def RPr (K : PySem.W.Frag) (H : Hp) (kvs : List NE) (ru : List RRow) : Prop := Paired (fun p r => p.1 = keyD r.kd ∧ Dp K H (.ref p.2.1) r.kd ∧ Dp K H p.2.2 r.vd) kvs ru
theorem RPr.keys {K : PySem.W.Frag} {H : Hp} : ∀ {kvs : List NE} {ru : List RRow}, RPr K H kvs ru → KeysN K H kvs
  | _, _, .nil => KeysN.nil
  | _, _, .cons (b := r) a h => fun p hp => by
    rcases List.mem_cons.mp hp with rfl | hp
    · exact ⟨r.kd, a.1, a.2.1, r.kd_imm, key_depth _ _⟩
    · exact RPr.keys h p hp
theorem RPr.keep {K : PySem.W.Frag} {H H' : Hp} (k : KeepT H H') {kvs : List NE} {ru : List RRow} (h : RPr K H kvs ru) : RPr K H' kvs ru :=
  paired_mono (fun _ r a => ⟨a.1, dp_imm k a.2.1 r.kd_imm, dp_imm k a.2.2 r.vd_imm⟩) h
theorem RPr.none {K : PySem.W.Frag} {H : Hp} {ma : List Nat} {e : En} : ∀ {kvs : List NE} {ru : List RRow}, RPr K H kvs ru → (∀ r ∈ ru, r.ma = ma → r.tg ≠ e) → valN kvs (keyD (.tuple [strD ma, e.d])) = Option.none
  | _, _, .nil, _ => rfl
  | _, _, .cons (a := p) (b := r) a h, hn => by
    show (if p.1 = _ then some p.2.2 else valN _ _) = Option.none
    rw [if_neg, RPr.none h fun r' hr' => hn r' (List.mem_cons_of_mem _ hr')]
    intro z
    obtain ⟨z1, z2⟩ := kd_inj (a.1.symm.trans z)
    exact hn r (List.mem_cons_self ..) z1 z2
/-- rules of one making have unlike targets -/
def RuNd (ru : List RRow) : Prop := ru.Pairwise fun r r' => r.ma = r'.ma → r.tg ≠ r'.tg
theorem RPr.val {K : PySem.W.Frag} {H : Hp} {r : RRow} : ∀ {kvs : List NE} {ru : List RRow}, RPr K H kvs ru → RuNd ru → r ∈ ru → ∃ v, valN kvs (keyD r.kd) = some v ∧ Dp K H v r.vd
  | _, _, .nil, _, h => nomatch h
  | _, _, .cons (a := p) (b := r0) a h, hn, hm => by
    unfold RuNd at hn
    rw [List.pairwise_cons] at hn
    rcases List.mem_cons.mp hm with rfl | hm
    · exact ⟨p.2.2, if_pos a.1, a.2.2⟩
    · obtain ⟨v, e, hd⟩ := RPr.val h hn.2 hm
      refine ⟨v, ?_, hd⟩
      show (if p.1 = _ then some p.2.2 else valN _ _) = some v
      rw [if_neg, e]
      intro z
      obtain ⟨z1, z2⟩ := kd_inj (a.1.symm.trans z)
      exact hn.1 r hm z1 z2
theorem RPr.at_ {K : PySem.W.Frag} {H : Hp} {p : NE} : ∀ {kvs : List NE} {ru : List RRow} {i : Nat}, RPr K H kvs ru → kvs[i]? = some p → ∃ r, ru[i]? = some r ∧ Dp K H (.ref p.2.1) r.kd
  | _, _, _, .nil, h => by cases h
  | _, _, 0, .cons (b := r) a _, h => by
    cases h
    exact ⟨r, rfl, a.2.1⟩
  | _, _, i + 1, .cons _ rr, h => by
    obtain ⟨r, e, hd⟩ := RPr.at_ (i := i) rr h
    exact ⟨r, e, hd⟩
/-- what a rule names -/
def rOds (r : RRow) : List Od := .en r.tg :: r.os
def odsOf (m : List Nat) (ru : List RRow) : List Od := (ru.filter fun r => decide (r.ma = m)).flatMap rOds
def keptNames (m : List Nat) (ru : List RRow) : List (List Nat) := (odsOf m ru).flatMap odName
theorem odsOf_snoc (m : List Nat) (ru : List RRow) (r : RRow) : odsOf m (ru ++ [r]) = odsOf m ru ++ (if r.ma = m then rOds r else []) := by
  unfold odsOf
  rw [List.filter_append, List.flatMap_append]
  by_cases h : r.ma = m
  · rw [if_pos h]
    simp [h]
  · rw [if_neg h]
    simp [h]
theorem kd_at {K : PySem.W.Frag} {H : Hp} {b : Addr} {r : RRow} (h : Dp K H (.ref b) r.kd) : ∃ v, SqT K H b [.str (SX.S r.ma), v] ∧ Dp K H v r.tg.d := by
  cases h with
  | tup hS hA =>
    cases hA with
    | cons a1 hA =>
      cases hA with
      | cons a2 hA =>
        cases hA
        cases a1
        exact ⟨_, hS, a2⟩
theorem vd_at {K : PySem.W.Frag} {H : Hp} {v : V} {r : RRow} (h : Dp K H v r.vd) : ∃ q t us, v = .ref q ∧ SqT K H q [.str (SX.S r.op), .ref t] ∧ SqT K H t us ∧ DpAll K H us (r.os.map Od.d) := by
  cases h with
  | tup hS hA =>
    cases hA with
    | cons a1 hA =>
      cases hA with
      | cons a2 hA =>
        cases hA
        cases a1
        cases a2 with
        | tup hS2 hA2 => exact ⟨_, _, _, rfl, hS, hS2, hA2⟩
theorem KeepT.ext {P : Program} {w : World} {H Y : Hp} {rd : Addr} {kvs : List NE} (hrd : H rd = some (dnO P w rd kvs)) (b : But rd H Y) : KeepT H Y := fun c o ht hc => b c o (fun z => by
  rw [z, hrd] at hc
  have hc := Option.some.inj hc
  subst hc
  rcases ht with ⟨_, e⟩ | ⟨_, _, e⟩
  · cases e
  · cases e) hc
theorem ods_len {m : List Nat} {ru : List RRow} (h : ∀ r ∈ ru, r.os.length ≤ 3) : ∀ j, (odsOf m (ru.take j)).length ≤ 4 * j := fun j => by
  induction j with
  | zero => exact Nat.le_refl _
  | succ j ih =>
    rw [List.take_add_one]
    cases e : ru[j]? with
    | none =>
      rw [Option.toList_none, List.append_nil]
      omega
    | some r =>
      have := h r (List.mem_of_getElem? e)
      rw [Option.toList_some, odsOf_snoc, List.length_append]
      split
      · show _ + (r.os.length + 1) ≤ _
        omega
      · show _ + 0 ≤ _
        omega
theorem names_len : ∀ os : List Od, (os.flatMap odName).length ≤ os.length
  | [] => Nat.le_refl _
  | o :: os => by
    rw [List.flatMap_cons, List.length_append, List.length_cons]
    have := names_len os
    have h1 : (odName o).length ≤ 1 := by
      cases o with
      | own => exact Nat.zero_le _
      | num n => exact Nat.zero_le _
      | en e =>
        cases e with
        | sp p w => exact Nat.zero_le _
        | kept w => exact Nat.le_refl _
    omega
def spKeptBy (K : PySem.W.Frag) (P : Program) (w : World) : Sp := fun vs H Q _ => ∃ (m : List Nat) (rd : Addr) (kvs : List NE) (ru : List RRow), vs = [.str (SX.S m), .ref rd] ∧ H rd = some (dnO P w rd kvs) ∧ RPr K H kvs ru ∧ RuNd ru ∧ ru.length ≤ 240 ∧ (∀ r ∈ ru, r.os.length ≤ 3) ∧ (gotTx ((keptNames m ru).map SX.S)).length < 64 ∧
  ∀ (H' : Hp) (l : Addr) (ys : List Str), Same H H' → H l = none → H' l = some (.lst (ys.map V.str)) → ys.Perm (gotTx ((keptNames m ru).map SX.S)) → sortedS ys = true → Q (.ref l) H'
section
variable {P : Program} {w : World} {K : PySem.W.Frag} {mg : Str → Option Value} {base : Heap} {PD LA : Addr}
theorem ok_kept_by (T : Gb mg) (D : Dd K mg "kept_by" s_kept_by P_kept_by) : C8.Cal P w K mg base 1 "kept_by" (spKeptBy K P w) [] := by
  refine D.cal sc_kept_by (fun vs H Q E h => ?_) (fun f cdv A outer s H vs Q E hr h => ?_)
  · obtain ⟨m, rd, kvs, ru, rfl, _⟩ := h
    rfl
  · obtain ⟨m, rd, kvs, ru, rfl, hrd, hpr, hnd, hle, hos, hfew, q⟩ := h
    refine ⟨_, (pss_cons (ps_set (i := 2) sc_kept_by.nd rfl (Or.inl rfl) (pe_lst pa_nil))
        (pss_cons (ps_lock (ps_for PassesOwn.never rfl (pi_keysN (pv 1)) (pg_tup rfl (pgs_cons (pg_name (i := 3) sc_kept_by.nd rfl (Or.inl rfl)) (pgs_cons (pg_name (i := 4) sc_kept_by.nd rfl (Or.inl rfl)) pgs_nil)))
          (pss_one (ps_if (pt_cmpR op_eq (pv 3) (pv 0) (nomark _))
          (pss_cons (ps_expr (pe_bm PySem.F.plainAttrs_list PySem.F.slot_list_append PySem.F.type_list_append mt_append (pv 2) (pa_cons (pv 4) pa_nil)))
        (pss_one (ps_expr (pe_bm PySem.F.plainAttrs_list PySem.F.slot_list_extend PySem.F.type_list_extend mt_extendT (pv 2) (pa_cons (pe_ix (r := rIxT K) ix_tup (pe_dgetN (hu9 (hu65 hr)) (pv 1) (pe_tup (pa_cons (pv 3) (pa_cons (pv 4) pa_nil))) (fun _ _ => rfl)) pe_int (fun _ _ => rfl)) pa_nil)))))
          pss_nil))))
        (pss_one (ps_ret (pe_callB (cr_sortTx rfl) (by rfl) T.sorted (by decide +kernel) (pa_cons (pe_callTy (cr_setTx rfl) (by rfl) T.set (by decide +kernel) (pa_cons (pe_lc (own := [("term", 5)]) (by exact rfl) sc_kept_by.nd (pi_list (pv 2)) (blkOk_by (own := [("term", 5)]) (N := N_kept_by) (sc := defScope s_kept_by) (by decide +kernel)) (fun _ _ _ _ _ => (pg_name (i := 5) sc_kept_by.nd rfl (Or.inl rfl))) (fun _ _ _ _ _ => (pts_one (pt_cmpR op_eq (pe_ix (r := rIxT K) ix_tup (pv 5) pe_int (fun _ _ => rfl)) pe_str (nomark _)))) (fun _ _ _ _ _ => (pe_ix (r := rIxT K) ix_tup (pv 5) pe_int (fun _ _ => rfl)))) pa_nil)) pa_nil)))))), ?_⟩
    refine ⟨by show 0 ≤ sizeLine; decide, fun l nl => ?_⟩
    have s1 := same_upd (o := .lst []) nl
    have nlr : l ≠ rd := fun z => by
      rw [z, hrd] at nl
      cases nl
    have lk : kvs.length = ru.length := paired_len hpr
    have olen : ∀ j, (odsOf m (ru.take j)).length ≤ 4 * j := ods_len hos
    refine ⟨rd, dnO P w rd kvs, s1 _ _ hrd, trivial, fun od => ?_⟩
    refine ⟨_, rfl, rd, od, kvs, rfl, upd_same, ?_⟩
    refine for_it walk_keysN (fun j σ Y => ∃ (y3 y4 y5 : Option V) (tv : List V), σ = [some (.str (SX.S m)), some (.ref rd), some (.ref l), y3, y4, y5] ∧ Y rd = some (.frz od (dnO P w rd kvs)) ∧ But rd H Y ∧ Y l = some (.lst tv) ∧ DpAll K H tv ((odsOf m (ru.take j)).map Od.d))
      ⟨none, none, none, [], rfl, upd_same, fun b o nb hb => by rw [upd_ne nb]; exact s1 _ _ hb, by rw [upd_ne nlr]; exact upd_same, .nil⟩ (fun j σ Y _ ⟨_, _, _, _, _, h, _⟩ => h) ?_ ?_
    · rintro j v σ Y0 Y hj ⟨y3, y4, y5, tv, rfl, hfz, bt, hl, hd⟩ ⟨rfl, p, hp, rfl⟩
      obtain ⟨r, hr1, hk⟩ := hpr.at_ hp
      have kH := KeepT.ext hrd bt
      obtain ⟨tgv, hS, htg⟩ := kd_at hk
      have tk : ru.take (j + 1) = ru.take j ++ [r] := by rw [List.take_add_one, hr1]; rfl
      have ltv := dpAll_len hd
      rw [List.length_map] at ltv
      have ol := olen j
      have hjr : j < ru.length := (List.getElem?_eq_some_iff.mp hr1).1
      refine ⟨p.2.1, _, rfl, kH.seqT hS, rfl, _, _, rfl, _, _, rfl, rfl, ?_⟩
      refine ⟨_, rfl, _, rfl, rfl, _, rfl, ?_⟩
      by_cases hm : r.ma = m
      · refine ifT (decide_eq_true (by rw [hm])) ?_
        obtain ⟨vv, hv, hvd⟩ := hpr.val hnd (List.mem_of_getElem? hr1)
        obtain ⟨q0, t, us, rfl, hq0, ht, hus⟩ := vd_at hvd
        have lus := dpAll_len hus
        rw [List.length_map] at lus
        have h3 := hos r (List.mem_of_getElem? hr1)
        refine ⟨_, rfl, .inl ⟨rfl, _, SqL.of hl⟩, ?_⟩
        refine ⟨_, rfl, l, tv, tgv, rfl, rfl, hl, small1000 (by omega), ?_⟩
        refine ⟨_, rfl, .inl ⟨rfl, _, SqL.of upd_same⟩, ?_⟩
        have btA : But rd H (upd Y l (.lst (tv ++ [tgv]))) := fun b o nb hb => by
          rw [upd_ne (ne_of_none hb nl)]
          exact bt b o nb hb
        refine ⟨_, rfl, _, rfl, _, rfl, by show 2 ≤ sizeLine; decide, fun b nb => ?_⟩
        have btB : But rd H (upd (upd Y l (.lst (tv ++ [tgv]))) b (.tup [.str (SX.S r.ma), tgv])) := fun c o nc hc => by
          rw [upd_ne (ne_of_none (btA c o nc hc) nb)]
          exact btA c o nc hc
        have nbl : l ≠ b := fun z => by
          rw [← z, upd_same] at nb
          cases nb
        have nbr : rd ≠ b := fun z => by
          rw [← z, upd_ne (Ne.symm nlr), hfz] at nb
          cases nb
        have kB := KeepT.ext hrd btB
        refine ⟨rd, b, kvs, r.kd, .ref q0, rfl, .inr ⟨od, by rw [upd_ne nbr, upd_ne (Ne.symm nlr)]; exact hfz⟩, hpr.keys.keep kB, ⟨rfl, .tup (SqT.of upd_same) (.cons (.str _) (.cons (dp_imm kB htg r.tg.imm) .nil)), r.kd_imm, key_depth _ _⟩, hv, ?_⟩
        refine ⟨q0, _, 1, .ref t, rfl, rfl, kB.seqT hq0, atI_nat (j := 1) rfl, ?_⟩
        refine ⟨l, t, tv ++ [tgv], us, rfl, rfl, by rw [upd_ne nbl]; exact upd_same, kB.seqT ht, by rw [List.length_append, List.length_singleton]; exact Nat.le_of_lt (small1000 (by omega)), ?_⟩
        refine ⟨_, _, _, _, rfl, ?_, ?_, upd_same, ?_⟩
        · rw [upd_ne (Ne.symm nlr), upd_ne nbr, upd_ne (Ne.symm nlr)]
          exact hfz
        · intro c o nc hc
          rw [upd_ne (ne_of_none hc nl)]
          exact btB c o nc hc
        · rw [tk, odsOf_snoc, if_pos hm, List.map_append, List.append_assoc]
          exact dpAll_appI hd (.cons htg hus)
      · refine ifF (decide_eq_false (fun z => hm (SX.S_inj (V.str.inj z)))) ?_
        refine ⟨_, _, _, tv, rfl, hfz, bt, hl, ?_⟩
        rw [tk, odsOf_snoc, if_neg hm, List.append_nil]
        exact hd
    · rintro σ Y ⟨y3, y4, y5, tv, rfl, hfz, bt, hl, hd⟩
      refine ⟨hfz, ?_⟩
      rw [lk, List.take_length] at hd
      have sZ : Same H (upd Y rd (dnO P w rd kvs)) := fun b o hb => by
        by_cases z : b = rd
        · rw [z, upd_same, ← hrd, ← z]
          exact hb
        · rw [upd_ne z]
          exact bt b o z hb
      have hlZ : (upd Y rd (dnO P w rd kvs)) l = some (.lst tv) := by
        rw [upd_ne nlr]
        exact hl
      obtain ⟨Z, eZ⟩ : ∃ Z, Z = upd Y rd (dnO P w rd kvs) := ⟨_, rfl⟩
      rw [← eZ] at sZ hlZ ⊢
      clear eZ hl bt hfz
      have ltv := dpAll_len hd
      rw [List.length_map] at ltv
      have ol := olen ru.length
      rw [List.take_length] at ol
      refine ⟨_, rfl, l, rfl, ⟨_, SqL.of hlZ⟩, fun D nD => ?_⟩
      refine lc_list (K := K) (a := l) (xs := tv) (fun j U => Same Z U ∧ U D = some (.lst (((((odsOf m ru).take j).flatMap odName).map SX.S).map V.str))) ⟨same_upd nD, upd_same⟩ (fun j U _ h => SqL.of (h.1 _ _ hlZ)) ?_ ?_
      · rintro j x U hx ⟨sU, hD⟩
        obtain ⟨o, ho, hxd⟩ := row_of hd hx
        have hxU := dp_same (sZ.trans sU) hxd
        have tk : (odsOf m ru).take (j + 1) = (odsOf m ru).take j ++ [o] := by rw [List.take_add_one, ho]; rfl
        have hj : j < (odsOf m ru).length := (List.getElem?_eq_some_iff.mp ho).1
        have small : ((((odsOf m ru).take j).flatMap odName).map SX.S).length ≤ 4 * 240 := by
          rw [List.length_map]
          refine Nat.le_trans (names_len _) ?_
          rw [List.length_take]
          omega
        refine ⟨rfl, ?_⟩
        rw [tk, List.flatMap_append, List.map_append, List.map_append]
        cases o with
        | own =>
          cases hxU with
          | tup hS hA =>
            cases hA with
            | cons a1 hA =>
              cases hA
              cases a1
              refine ⟨_, rfl, _, _, 0, .str "own", rfl, rfl, hS, atI_nat (j := 0) rfl, rfl, _, rfl, ifF (by decide +kernel) ⟨sU, ?_⟩⟩
              rw [show (List.flatMap odName [Od.own]) = [] from rfl, List.map_nil, List.map_nil, List.append_nil]
              exact hD
        | num n =>
          obtain ⟨q0, rfl, hq⟩ := num_at hxU
          refine ⟨_, rfl, q0, _, 0, .str "number", rfl, rfl, hq, atI_nat (j := 0) rfl, rfl, _, rfl, ifF (by decide +kernel) ⟨sU, ?_⟩⟩
          rw [show (List.flatMap odName [Od.num n]) = [] from rfl, List.map_nil, List.map_nil, List.append_nil]
          exact hD
        | en e =>
          cases e with
          | sp p w =>
            obtain ⟨q0, rfl, hq⟩ := sp_at hxU
            refine ⟨_, rfl, q0, _, 0, .str "at", rfl, rfl, hq, atI_nat (j := 0) rfl, rfl, _, rfl, ifF (by decide +kernel) ⟨sU, ?_⟩⟩
            rw [show (List.flatMap odName [Od.en (.sp p w)]) = [] from rfl, List.map_nil, List.map_nil, List.append_nil]
            exact hD
          | kept w =>
            obtain ⟨q0, rfl, hq⟩ := kp_at hxU
            refine ⟨_, rfl, q0, _, 0, .str "kept", rfl, rfl, hq, atI_nat (j := 0) rfl, rfl, _, rfl, ifT rfl ?_⟩
            refine ⟨_, rfl, q0, _, 1, .str (SX.S w), rfl, rfl, hq, atI_nat (j := 1) rfl, ?_⟩
            refine ⟨_, hD, small1000 (by rw [List.length_map]; omega), Same.at_ sU nD, ?_⟩
            rw [upd_same]
            rfl
      · rintro U ⟨sU, hD⟩
        rw [ltv, List.take_length] at hD
        have few : (keptNames m ru).length ≤ 1000 := by
          refine Nat.le_trans (names_len _) ?_
          omega
        refine ⟨D, (keptNames m ru).map SX.S, rfl, .inl (SqL.of hD), by rw [List.length_map]; exact few, fun p np => ?_⟩
        refine ⟨p, _, rfl, upd_same, hfew, fun ys p2 hys hso np2 => ?_⟩
        have sA := sZ.trans (sU.trans (same_upd (o := setTxO w p (gotTx ((keptNames m ru).map SX.S))) np))
        exact q _ p2 ys (sA.trans (same_upd np2)) (sA.free np2) upd_same hys hso
end
abbrev s_rule_is_so : Stmt := top 41
abbrev N_rule_is_so : List Str := ["row", "makings", "sorts", "cap", "making", "target", "op", "operands", "form", "operand"]
abbrev P_rule_is_so : List Str := ["row", "makings", "sorts", "cap"]
theorem sc_rule_is_so : FnScope N_rule_is_so P_rule_is_so (defScope s_rule_is_so) := ⟨rfl, rfl, rfl, by decide +kernel, rfl, by decide +kernel, by decide +kernel⟩
abbrev s_rules_in : Stmt := top 42
abbrev N_rules_in : List Str := ["rows", "makings", "sorts", "cap", "rules", "number", "row"]
abbrev P_rules_in : List Str := ["rows", "makings", "sorts", "cap"]
theorem sc_rules_in : FnScope N_rules_in P_rules_in (defScope s_rules_in) := ⟨rfl, rfl, rfl, by decide +kernel, rfl, by decide +kernel, by decide +kernel⟩
/-- the two tables -/
structure Tbs (K : PySem.W.Frag) (H : Hp) (md sd : Addr) (rs : List SRow) (ms : List MRow) : Prop where
  m : ∃ kvs, H md = some (.dK kvs) ∧ Tab K H kvs (ms.map mT)
  s : ∃ skv, H sd = some (.dK skv) ∧ Tab K H skv (rs.map sT)
  so : SortsOk rs
  nd : (ms.map MRow.nm).Nodup
  ok : ∀ m ∈ ms, MOk rs m
theorem Tbs.same {K : PySem.W.Frag} {H H' : Hp} {md sd : Addr} {rs : List SRow} {ms : List MRow} (s : Same H H') (h : Tbs K H md sd rs ms) : Tbs K H' md sd rs ms := by
  obtain ⟨skv, h1, h2⟩ := h.s
  obtain ⟨kvs, h3, h4⟩ := h.m
  exact ⟨⟨kvs, s _ _ h3, h4.keep (KeepT.of s) (fun t ht => by obtain ⟨r', _, e⟩ := List.mem_map.mp ht; rw [← e]; exact mT_imm r')⟩, ⟨skv, s _ _ h1, h2.keep (KeepT.of s) (fun t ht => by obtain ⟨r', _, e⟩ := List.mem_map.mp ht; rw [← e]; exact sT_imm r')⟩, h.so, h.nd, h.ok⟩
theorem Tbs.get {K : PySem.W.Frag} {H : Hp} {md sd : Addr} {rs : List SRow} {ms : List MRow} (h : Tbs K H md sd rs ms) {mr : MRow} (hm : mr ∈ ms) : ∃ v, DGet H md (.str (SX.S mr.nm)) (some v) ∧ Fm K H v sd rs mr := by
  obtain ⟨kvs, h3, h4⟩ := h.m
  obtain ⟨v, e, hd⟩ := h4.val (t := mT mr) (by rw [mT_k]; exact h.nd) (List.mem_map_of_mem hm)
  have hg := DGet.k (k := kS mr.nm) h3
  rw [show kS mr.nm = kS (mT mr).k from rfl, e] at hg
  exact ⟨v, hg, hd, h.s, h.so, h.ok mr hm⟩
structure RuleOk (rs : List SRow) (ms : List MRow) (roof : Nat) (r : RRow) : Prop where
  ex : ∃ mr ∈ ms, r.ma = mr.nm ∧ TgOk rs mr r.tg ∧ ∀ o ∈ r.os, OdOk rs mr o
  op : r.op ∈ opsOf roof
  ar : r.os.length = arOf r.op
theorem op_of {op : List Nat} {roof : Nat} (h : op ∈ opsOf roof) : ∃ o : Op, SX.S op = o.w ∧ arOf op = o.n ∧ (roof = 0 ∨ fineb o = true) := by
  have h4 : op ∈ OPS4 → ∃ o : Op, SX.S op = o.w ∧ arOf op = o.n ∧ fineb o = true := fun h => by
    unfold OPS4 at h
    simp only [List.mem_cons, List.not_mem_nil, or_false] at h
    rcases h with rfl | rfl | rfl | rfl
    · exact ⟨.copy, sl_S _, by decide +kernel, rfl⟩
    · exact ⟨.plus, sl_S _, by decide +kernel, rfl⟩
    · exact ⟨.least, sl_S _, by decide +kernel, rfl⟩
    · exact ⟨.most, sl_S _, by decide +kernel, rfl⟩
  unfold opsOf at h
  by_cases hr : roof = 0
  · rw [if_pos hr] at h
    rcases List.mem_append.mp h with h | h
    · obtain ⟨o, h1, h2, _⟩ := h4 h
      exact ⟨o, h1, h2, .inl hr⟩
    · unfold OPS8 at h
      simp only [List.mem_cons, List.not_mem_nil, or_false] at h
      rcases h with rfl | rfl | rfl | rfl | rfl | rfl | rfl | rfl
      · exact ⟨.plus, sl_S _, by decide +kernel, .inl hr⟩
      · exact ⟨.less, sl_S _, by decide +kernel, .inl hr⟩
      · exact ⟨.times, sl_S _, by decide +kernel, .inl hr⟩
      · exact ⟨.over, sl_S _, by decide +kernel, .inl hr⟩
      · exact ⟨.rest, sl_S _, by decide +kernel, .inl hr⟩
      · exact ⟨.same, sl_S _, by decide +kernel, .inl hr⟩
      · exact ⟨.under, sl_S _, by decide +kernel, .inl hr⟩
      · exact ⟨.pick, sl_S _, by decide +kernel, .inl hr⟩
  · rw [if_neg hr] at h
    obtain ⟨o, h1, h2, h3⟩ := h4 h
    exact ⟨o, h1, h2, .inr h3⟩
theorem op_n3 (o : Op) : o.n ≤ 3 := by cases o <;> decide
theorem rr4 {K : PySem.W.Frag} {H : Hp} {v : V} {r : RRow} (h : Dp K H v r.d) : ∃ q v2 t us, v = .ref q ∧ SqT K H q [.str (SX.S r.ma), v2, .str (SX.S r.op), .ref t] ∧ Dp K H v2 r.tg.d ∧ SqT K H t us ∧ DpAll K H us (r.os.map Od.d) := by
  cases h with
  | tup hS hA =>
    cases hA with
    | cons a1 hA =>
      cases hA with
      | cons a2 hA =>
        cases hA with
        | cons a3 hA =>
          cases hA with
          | cons a4 hA =>
            cases hA
            cases a1
            cases a3
            cases a4 with
            | tup hS2 hA2 => exact ⟨_, _, _, _, rfl, hS, a2, hS2, hA2⟩
theorem nodup_leA {α : Type} [DecidableEq α] : ∀ {us f : List α}, us.Nodup → (∀ u ∈ us, u ∈ f) → us.length ≤ f.length
  | [], _, _, _ => Nat.zero_le _
  | u :: us, f, h, s => by
    rw [List.nodup_cons] at h
    have h1 := nodup_leA (f := f.erase u) h.2 (fun x hx => (List.mem_erase_of_ne (fun (z : x = u) => h.1 (z ▸ hx))).mpr (s x (List.mem_cons_of_mem _ hx)))
    have hu := s u (List.mem_cons_self ..)
    rw [List.length_erase_of_mem hu] at h1
    have : 0 < f.length := List.length_pos_of_mem hu
    rw [List.length_cons]
    omega
def KeptFew (ru : List RRow) : Prop := ∀ r ∈ ru, ∃ ks : List (List Nat), ks.length ≤ 2 ∧ ∀ w ∈ keptNames r.ma ru, w ∈ ks
theorem kept_take {m : List Nat} {ru : List RRow} {j : Nat} {w : List Nat} (h : w ∈ keptNames m (ru.take j)) : w ∈ keptNames m ru := by
  unfold keptNames odsOf at h ⊢
  obtain ⟨o, ho, hw⟩ := List.mem_flatMap.mp h
  obtain ⟨r, hr, ho⟩ := List.mem_flatMap.mp ho
  obtain ⟨hr, e⟩ := List.mem_filter.mp hr
  exact List.mem_flatMap.mpr ⟨o, List.mem_flatMap.mpr ⟨r, List.mem_filter.mpr ⟨List.mem_of_mem_take hr, e⟩, ho⟩, hw⟩
theorem kept_few {ru : List RRow} {r : RRow} (h : KeptFew ru) (hr : r ∈ ru) (j : Nat) : (gotTx ((keptNames r.ma (ru.take j)).map SX.S)).length ≤ 2 := by
  obtain ⟨ks, h2, hk⟩ := h r hr
  refine Nat.le_trans (nodup_leA (f := ks.map SX.S) (gotTx_nodup _) fun u hu => ?_) (by rw [List.length_map]; exact h2)
  obtain ⟨w, hw, rfl⟩ := List.mem_map.mp (gotTx_mem.mp hu)
  exact List.mem_map_of_mem (hk w (kept_take hw))
def spRuleSo (K : PySem.W.Frag) : Sp := fun vs H Q _ => ∃ (rv : V) (md sd : Addr) (roof : Nat) (rs : List SRow) (ms : List MRow) (r : RRow), vs = [rv, .ref md, .ref sd, .int roof] ∧ Dp K H rv r.d ∧ Tbs K H md sd rs ms ∧ RuleOk rs ms roof r ∧ ∀ H', Same H H' → Q (.bl true) H'
def spRulesIn (K : PySem.W.Frag) (P : Program) (w : World) : Sp := fun vs H Q _ => ∃ (l md sd : Addr) (roof : Nat) (rv : List V) (rs : List SRow) (ms : List MRow) (ru : List RRow), vs = [.ref l, .ref md, .ref sd, .int roof] ∧ H l = some (.lst rv) ∧ DpAll K H rv (ru.map RRow.d) ∧ Tbs K H md sd rs ms ∧ (∀ r ∈ ru, RuleOk rs ms roof r) ∧ RuNd ru ∧ ru.length ≤ 240 ∧ KeptFew ru ∧
  ∀ (H' : Hp) (d : Addr) (kvs : List NE), Same H H' → H d = none → H' d = some (dnO P w d kvs) → RPr K H' kvs ru → Q (.ref d) H'
section
variable {P : Program} {w : World} {K : PySem.W.Frag} {mg : Str → Option Value} {base : Heap} {PD LA : Addr}
theorem ok_rule_is_so (T : Gb mg) (cis_tuple_of : C8.Cal P w K mg base 1 "is_tuple_of" (spTupOf K) []) (cis_name : C8.Cal P w K mg base 1 "is_name" spNameT []) (cis_target : C8.Cal P w K mg base 3 "is_target" (spIsTg K) []) (cis_op : C8.Cal P w K mg base 1 "is_op" spOpT []) (cop_let_1_cap : KCal P w K mg base 2 "op_let" spLetT 1 ["cap"] (fun vs zs => vs ++ zs))
    (cparts_of : C8.Cal P w K mg base 2 "parts_of" spPartsT []) (cis_operand : C8.Cal P w K mg base 3 "is_operand" (spIsOd K) []) (D : Dd K mg "rule_is_so" s_rule_is_so P_rule_is_so) : C8.Cal P w K mg base 4 "rule_is_so" (spRuleSo K) [] := by
  refine D.cal sc_rule_is_so (fun vs H Q E h => ?_) (fun f cdv A outer s H vs Q E hr h => ?_)
  · obtain ⟨rv, md, sd, roof, rs, ms, r, rfl, _⟩ := h
    rfl
  · obtain ⟨rv, md, sd, roof, rs, ms, r, rfl, hrow, tb, rok, q⟩ := h
    obtain ⟨q0, v2, t, us, rfl, hq, htg, ht, hus⟩ := rr4 hrow
    obtain ⟨mr, hmr, hma, htok, hook⟩ := rok.ex
    obtain ⟨o, ho, hon, hfi⟩ := op_of rok.op
    have h3 := op_n3 o
    have har := rok.ar
    have mok := tb.ok mr hmr
    refine ⟨_, (pss_cons (ps_if (pt_not (pt_val (C8.pe_c cis_tuple_of hr (by decide) (by rfl) (pa_cons (pv 0) (pa_cons pe_int pa_nil)))))
          (pss_one (ps_ret pe_bl))
          pss_nil)
        (pss_cons (ps_asg (pv 0) (pg_tup rfl (pgs_cons (pg_name (i := 4) sc_rule_is_so.nd rfl (Or.inl rfl)) (pgs_cons (pg_name (i := 5) sc_rule_is_so.nd rfl (Or.inl rfl)) (pgs_cons (pg_name (i := 6) sc_rule_is_so.nd rfl (Or.inl rfl)) (pgs_cons (pg_name (i := 7) sc_rule_is_so.nd rfl (Or.inl rfl)) pgs_nil))))))
        (pss_cons (ps_if (PW.pt (pw_or (pt_not (pt_val (C8.pe_c cis_name hr (by decide) (by rfl) (pa_cons (pv 4) pa_nil)))) (pw_or1 (pt_cmp (pc_dnotin (hu_of hr) (pv 4) (pv 1)) (by with_unfolding_all rfl)))))
          (pss_one (ps_ret pe_bl))
          pss_nil)
        (pss_cons (ps_set (i := 8) sc_rule_is_so.nd rfl (Or.inr rfl) (pe_dget (hu_of hr) (pv 1) (pv 4) (fun _ _ => rfl)))
        (pss_cons (ps_if (PW.pt (pw_or (pt_not (pt_val (C8.pe_c cis_target hr (by decide) (by rfl) (pa_cons (pv 5) (pa_cons (pv 8) (pa_cons (pv 2) pa_nil)))))) (pw_or (pt_not (pt_val (C8.pe_c cis_op hr (by decide) (by rfl) (pa_cons (pv 6) pa_nil)))) (pw_or1 (pt_not (pt_val (pe_kw cop_let_1_cap hr (by decide) (by rfl) (pa_cons (pv 6) pa_nil) (pk_cons (pv 3) pk_nil))))))))
          (pss_one (ps_ret pe_bl))
          pss_nil)
        (pss_cons (ps_if (pt_not (pt_val (C8.pe_c cis_tuple_of hr (by decide) (by rfl) (pa_cons (pv 7) (pa_cons (C8.pe_c cparts_of hr (by decide) (by rfl) (pa_cons (pv 6) pa_nil)) pa_nil)))))
          (pss_one (ps_ret pe_bl))
          pss_nil)
        (pss_one (ps_ret (pe_callB (cr_all rfl) (by rfl) T.all (by decide +kernel) (pa_cons (pe_lc (own := [("operand", 9)]) (by exact rfl) sc_rule_is_so.nd (pi_tup (pv 7)) (blkOk_by (own := [("operand", 9)]) (N := N_rule_is_so) (sc := defScope s_rule_is_so) (by decide +kernel)) (fun _ _ _ _ _ => (pg_name (i := 9) sc_rule_is_so.nd rfl (Or.inl rfl))) (fun _ _ _ _ _ => pts_nil) (fun _ _ _ _ _ => (C8.pe_c cis_operand hr (by decide) (by rfl) (pa_cons (pv 9) (pa_cons (pv 8) (pa_cons (pv 2) pa_nil)))))) pa_nil)))))))))), ?_⟩
    refine ⟨_, rfl, .ref q0, r.d, 4, rfl, hrow, _, rfl, iteF ?_⟩
    refine ⟨_, rfl, q0, _, rfl, hq, rfl, _, _, rfl, _, _, rfl, _, _, rfl, _, _, rfl, rfl, ?_⟩
    refine ⟨_, rfl, r.ma, rfl, by rw [hma]; exact mok.nm, fun H1 s1 => ⟨_, rfl, ifF rfl ?_⟩⟩
    obtain ⟨fv, hg, fm⟩ := (tb.same s1).get hmr
    rw [← hma] at hg
    refine ⟨_, rfl, _, rfl, md, _, rfl, hg, _, rfl, ifF rfl ?_⟩
    refine ⟨_, rfl, _, rfl, md, fv, rfl, hg, ?_⟩
    refine ⟨_, rfl, _, rfl, _, rfl, v2, fv, sd, rs, mr, r.tg, rfl, dp_same s1 htg, fm, htok, fun H2 s2 => ⟨_, rfl, ifF rfl ?_⟩⟩
    rw [ho]
    refine ⟨_, rfl, o, rfl, _, rfl, ifF rfl ?_⟩
    refine ⟨_, rfl, _, rfl, rfl, rfl, o, roof, rfl, hfi, _, rfl, ifF rfl ?_⟩
    have s12 := s1.trans s2
    have lus := dpAll_len hus
    rw [List.length_map] at lus
    refine ⟨_, rfl, _, rfl, o, rfl, .ref t, .tuple (r.os.map Od.d), o.n, rfl, .tup (sqT_s s12 ht) (dpAll_same s12 hus), _, rfl, ?_⟩
    refine ifF (by show (!decide ((r.os.map Od.d).length = o.n)) = false; rw [List.length_map, decide_eq_true (by omega)]; rfl) ?_
    refine ⟨_, rfl, t, rfl, ⟨_, sqT_s s12 ht⟩, fun D nD => ?_⟩
    refine lc_it (walk_tup (K := K) (a := t) (xs := us)) (fun j H' => Same H2 H' ∧ H' D = some (.lst ((List.replicate j true).map V.bl))) ⟨same_upd nD, upd_same⟩ (fun j H5 _ hh => sqT_s (s12.trans hh.1) ht) ?_ ?_
    · rintro j v H5 H6 hj ⟨sm, hD⟩ ⟨rfl, hv⟩
      obtain ⟨o', ho', hvd⟩ := row_of hus hv
      refine ⟨rfl, yesT ?_⟩
      refine ⟨_, rfl, _, rfl, _, rfl, v, fv, sd, rs, mr, o', rfl, dp_same (s12.trans sm) hvd, (fm.same s2).same sm, hook o' (List.mem_of_getElem? ho'), fun H7 s7 => ?_⟩
      refine ⟨_, s7 _ _ hD, by rw [List.length_map, List.length_replicate]; exact small1000 (by omega), Same.at_ (sm.trans s7) nD, ?_⟩
      rw [upd_same, List.replicate_succ', List.map_append]
      rfl
    · rintro H5 ⟨sm, hD⟩
      refine ⟨D, _, rfl, SqL.of hD, ?_⟩
      rw [show (List.replicate us.length true).all id = true by simp]
      exact q _ (s12.trans sm)
theorem ok_rules_in (T : Gb mg) (G : Gg mg PD LA) (crows_of : C8.Cal P w K mg base 1 "rows_of" spRows []) (crule_is_so : C8.Cal P w K mg base 4 "rule_is_so" (spRuleSo K) []) (ckept_by : C8.Cal P w K mg base 1 "kept_by" (spKeptBy K P w) []) (D : Dd K mg "rules_in" s_rules_in P_rules_in) : C8.Cal P w K mg base 5 "rules_in" (spRulesIn K P w) [] := by
  refine D.cal sc_rules_in (fun vs H Q E h => ?_) (fun f cdv A outer s H vs Q E hr h => ?_)
  · obtain ⟨l, md, sd, roof, rv, rs, ms, ru, rfl, _⟩ := h
    rfl
  · obtain ⟨l, md, sd, roof, rv, rs, ms, ru, rfl, hl, hrv, tb, hok, hnd, hle, hfew, q⟩ := h
    refine ⟨_, (pss_cons (ps_set (i := 4) sc_rules_in.nd rfl (Or.inl rfl) pe_dnewN)
        (pss_cons (ps_for PassesOwn.never rfl (pi_enum (by rfl) T.enumerate (pa_cons (C8.pe_c crows_of hr (by decide) (by rfl) (pa_cons pe_str (pa_cons (pv 0) pa_nil))) pa_nil)) (pg_tup rfl (pgs_cons (pg_name (i := 5) sc_rules_in.nd rfl (Or.inl rfl)) (pgs_cons (pg_name (i := 6) sc_rules_in.nd rfl (Or.inl rfl)) pgs_nil)))
          (pss_cons (ps_if (PW.pt (pw_or (pt_not (pt_val (C8.pe_c crule_is_so hr (by decide) (by rfl) (pa_cons (pv 6) (pa_cons (pv 1) (pa_cons (pv 2) (pa_cons (pv 3) pa_nil))))))) (pw_or1 (pt_cmpR (op_inN (hu9 (hu65 hr))) (pe_slice (r := rSlAny K) sl_any (pv 6) po_none (po_some pe_int)) (pv 4) (by with_unfolding_all rfl)))))
          (pss_one ps_never)
          pss_nil)
        (pss_cons (ps_asg (pe_slice (r := rSlAny K) sl_any (pv 6) (po_some pe_int) po_none) (pg_sub (pv 4) (pe_slice (r := rSlAny K) sl_any (pv 6) po_none (po_some pe_int)) (set_dn (hu9 (hu65 hr)))))
        (pss_one (ps_if (pt_cmpR op_gt (pe_callB call_len_seq (by rfl) T.len PySem.boot_len (pa_cons (C8.pe_c ckept_by hr (by decide) (by rfl) (pa_cons (pe_ix ix_tup (pv 6) pe_int (fun _ _ => rfl)) (pa_cons (pv 4) pa_nil))) pa_nil)) (C8.pe_gc (v := .int 2) rfl G.each) (nomark _))
          (pss_one ps_never)
          pss_nil)))))
        (pss_one (ps_ret (pv 4))))), ?_⟩
    refine fun d nd => ?_
    have s1 := same_upd (o := dnO P w d []) nd
    have lrv := dpAll_len hrv
    rw [List.length_map] at lrv
    refine ⟨_, rfl, "rules", l, rv, rfl, s1 _ _ hl, l, rv, rfl, SqL.of (s1 _ _ hl), ?_⟩
    refine for_it walk_enum (fun j σ Y => ∃ (y5 y6 : Option V) (kvs : List NE), σ = [some (.ref l), some (.ref md), some (.ref sd), some (.int roof), some (.ref d), y5, y6] ∧ Same H Y ∧ Y d = some (dnO P w d kvs) ∧ RPr K Y kvs (ru.take j))
      ⟨none, none, [], rfl, s1, upd_same, .nil⟩ (fun i σ Y _ ⟨_, _, _, _, h, _⟩ => SqL.of (h _ _ hl)) ?_ ?_
    · rintro j v σ Y0 Y hj ⟨y5, y6, kvs, rfl, s2, hd, hpr⟩ ⟨TT, xx, yy, rfl, nT, rfl, ex, ey⟩
      cases ex
      obtain ⟨r, hr1, hrow⟩ := row_of (dpAll_same s2 hrv) ey
      have sN := same_upd (o := .tup [.int ((j : Nat) : Int), yy]) nT
      have hjr : j < ru.length := (List.getElem?_eq_some_iff.mp hr1).1
      have hrm := List.mem_of_getElem? hr1
      have rok := hok r hrm
      have lk := paired_len hpr
      rw [List.length_take] at lk
      have tk : ru.take (j + 1) = ru.take j ++ [r] := by rw [List.take_add_one, hr1]; rfl
      refine ⟨TT, _, rfl, SqT.of upd_same, rfl, _, _, rfl, _, _, rfl, rfl, ?_⟩
      refine ⟨_, rfl, _, rfl, _, rfl, _, rfl, yy, md, sd, roof, rs, ms, r, rfl, dp_same sN hrow, tb.same (s2.trans sN), rok, fun Y1 sY1 => ⟨_, rfl, ifF rfl ?_⟩⟩
      have sA := sN.trans sY1
      obtain ⟨q0, v2, t, us, rfl, hq, htg, ht, hus⟩ := rr4 (dp_same sA hrow)
      refine ⟨_, rfl, _, rfl, q0, _, rfl, hq, fun Y2 p2 sY2 hp2 => ?_⟩
      have sB := sA.trans sY2
      have hp2 : SqT K Y2 p2 [.str (SX.S r.ma), v2] := hp2
      have hn : valN kvs (keyD r.kd) = none := hpr.none fun r' hr' e1 e2 => by
        rw [← List.take_append_drop j ru, List.drop_eq_getElem_cons hjr] at hnd
        have e3 : ru[j] = r := (List.getElem?_eq_some_iff.mp hr1).2
        exact ((List.pairwise_append.mp hnd).2.2 r' hr' ru[j] (List.mem_cons_self ..)) (by rw [e3]; exact e1) (by rw [e3]; exact e2)
      have key : ∀ {Z : Hp} {b : Addr}, KeepT Y1 Z → SqT K Z b [.str (SX.S r.ma), v2] → KeyN K Z (.ref b) b r.kd := fun {Z b} k h => ⟨rfl, .tup h (.cons (.str _) (.cons (dp_imm k htg r.tg.imm) .nil)), r.kd_imm, key_depth _ _⟩
      refine ⟨_, rfl, d, p2, kvs, r.kd, rfl, .inl (sB _ _ hd), (hpr.keep (KeepT.of sB)).keys, key (KeepT.of sY2) hp2, _, rfl, ?_⟩
      rw [hn]
      refine ifF rfl ?_
      refine ⟨_, rfl, _, rfl, q0, _, rfl, sqT_s sY2 hq, fun Y3 p3 sY3 hp3 => ?_⟩
      have hp3 : SqT K Y3 p3 [.str (SX.S r.op), .ref t] := hp3
      have sC := sB.trans sY3
      refine ⟨_, rfl, _, rfl, _, rfl, q0, _, rfl, sqT_s (sY2.trans sY3) hq, fun Y4 p4 sY4 hp4 => ?_⟩
      have hp4 : SqT K Y4 p4 [.str (SX.S r.ma), v2] := hp4
      have sD := sC.trans sY4
      have s14 := sY2.trans (sY3.trans sY4)
      have hd4 := sD _ _ hd
      refine ⟨d, p4, kvs, r.kd, rfl, hd4, (hpr.keep (KeepT.of sD)).keys, key (KeepT.of s14) hp4, hn, by omega, ?_⟩
      have bt5 : But d Y4 (upd Y4 d (dnO P w d (kvs ++ [(keyD r.kd, p4, .ref p3)]))) := But.upd (But.refl d Y4)
      have k5 := KeepT.ext hd4 bt5
      have hpr5 : RPr K (upd Y4 d (dnO P w d (kvs ++ [(keyD r.kd, p4, .ref p3)]))) (kvs ++ [(keyD r.kd, p4, .ref p3)]) (ru.take (j + 1)) := by
        rw [tk]
        refine paired_snoc (hpr.keep ((KeepT.of sD).trans k5)) ⟨rfl, dp_imm k5 (key (KeepT.of s14) hp4).2.1 r.kd_imm, ?_⟩
        refine dp_imm k5 (.tup (sqT_s sY4 hp3) (.cons (.str _) (.cons (.tup (sqT_s s14 ht) (dpAll_same s14 hus)) .nil))) r.vd_imm
      have sE : Same H (upd Y4 d (dnO P w d (kvs ++ [(keyD r.kd, p4, .ref p3)]))) := Same.at_ (s2.trans sD) nd
      have hq5 := k5.seqT (sqT_s s14 hq)
      have hd5 : (upd Y4 d (dnO P w d (kvs ++ [(keyD r.kd, p4, .ref p3)]))) d = some (dnO P w d (kvs ++ [(keyD r.kd, p4, .ref p3)])) := upd_same
      refine ⟨_, rfl, q0, _, 0, .str (SX.S r.ma), rfl, rfl, hq5, atI_nat (j := 0) rfl, _, rfl, r.ma, d, _, ru.take (j + 1), rfl, hd5, hpr5, hnd.sublist (List.take_sublist _ _), by rw [List.length_take]; omega, fun r' hr' => ?_, Nat.lt_of_le_of_lt (kept_few hfew hrm (j + 1)) (by decide), fun Y6 l6 ys s6 n6 hl6 hys _ => ?_⟩
      · have h' := hok r' (List.mem_of_mem_take hr')
        obtain ⟨o', _, h2, _⟩ := op_of h'.op
        rw [h'.ar, h2]
        exact op_n3 o'
      refine ⟨l6, _, rfl, .inl (SqL.of hl6), _, _, rfl, rfl, _, rfl, ?_⟩
      have l2 : ys.length ≤ 2 := by
        rw [hys.length_eq]
        exact kept_few hfew hrm (j + 1)
      refine ifF (decide_eq_false (show ¬ (2 : Int) < ((ys.map V.str).length : Int) by rw [List.length_map]; omega)) ?_
      exact ⟨_, _, _, rfl, sE.trans s6, s6 _ _ hd5, hpr5.keep (KeepT.of s6)⟩
    · rintro σ Y ⟨y5, y6, kvs, rfl, s2, hd, hpr⟩
      rw [lrv, List.take_length] at hpr
      exact ⟨_, rfl, q _ d kvs s2 nd hd hpr⟩
end
/-! ### sorted(rows): rows whose first unlike items can be compared -/
section
open PySem.SeqAt
open PySem.AutoSeq1 (wpAny_loadPart')
open PySem.MeetsSeq PySem.MeetsSeq2 PySem.MeetsSeq3
/-- two tuples whose first items are unlike texts -/
theorem tup_lt_head (l b : Addr) (is js : List Value) (n n2 : Nat) (dd dd2 : Option Addr) (sl sl2 : Array (Option Value)) (x y : Str) (t u : Tok) (hne : (x == y) = false) :
    Meets (Builtin.«tuple.__lt__» ⟨[.ref l, .ref b], []⟩)
      (fun _ R s => s.heap.get? l = some { cls := .type "tuple", dict := dd, data := .seq (List.toArray (.str x t :: is)) n, slots := sl } ∧ s.heap.get? b = some { cls := .type "tuple", dict := dd2, data := .seq (List.toArray (.str y u :: js)) n2, slots := sl2 } ∧
        R (.ok (.ret (.bool (decide (x.cps.toList < y.cps.toList))))) s) :=
  .of_wp fun prog w A R s h => by
    obtain ⟨hp, g, d, tk, os⟩ := s; obtain ⟨hl, hb, h⟩ := h
    have f2 := PySem.AutoSeq1.sub_tuple_tuple
    wp_walk using wpAny_loadPart' hl, wpAny_loadPart' hb, wpAny_forIn_list _ (fun rest b s' => b.1 = none ∧ s' = ⟨hp, g, d, tk, os⟩ ∧ rest = (Value.str x t, Value.str y u) :: is.zip js) _
    case turn =>
      rintro ⟨p, q⟩ rest b s' ⟨hb', rfl, hz⟩
      injection hz with h1 h2
      injection h1 with h3 h4
      subst h3 h4 h2
      have he := SeqAt.EqAt.str_str (A := A.in1) (s := ⟨hp, g, d, tk, os⟩) x t y u
      rw [hne] at he
      refine wpAny_bind (he prog w _ _ ?_)
      have hri := DT.rcLt_str A.in1 ⟨hp, g, d, tk, os⟩ x t y u prog w
      wp_walk using hri
      exact ⟨_, rfl, by simpa using h⟩
    case fin =>
      rintro ⟨b1, b2⟩ s' ⟨hb', rfl, hz⟩
      cases hz
    case h =>
      exact ⟨rfl, rfl, by simp⟩
end
/-- x < y can be told: alike data, or tuples whose first items are unlike texts -/
inductive LtS : PyData → PyData → Prop
  | al {x y : PyData} : PySem.W.alike x y = true → x ≠ .none → LtS x y
  | hd {a b : Str} {xs ys : List PyData} : (a == b) = false → LtS (.tuple (.str a :: xs)) (.tuple (.str b :: ys))
/-- the first unlike items can be compared (the very first are texts) -/
inductive FO : Nat → List PyData → List PyData → Prop
  | nil {i : Nat} {ys : List PyData} : FO i [] ys
  | nil2 {i : Nat} {xs : List PyData} : FO i xs []
  | eq {i : Nat} {x y : PyData} {xs ys : List PyData} : PyData.eqv x y = true → FO (i + 1) xs ys → FO i (x :: xs) (y :: ys)
  | s0 {a b : Str} {xs ys : List PyData} : PyData.eqv (.str a) (.str b) = false → FO 0 (.str a :: xs) (.str b :: ys)
  | lt {i : Nat} {x y : PyData} {xs ys : List PyData} : PyData.eqv x y = false → LtS x y → FO (i + 1) (x :: xs) (y :: ys)
section
variable {prog : Program} {w : World} {A : Around} {s : Shared}
theorem ltS_tells {x y : PyData} {p q : Value} {as bs : List Addr} (h : LtS x y) (ra : Reads s.heap p x as) (rb : Reads s.heap q y bs) (hu : A.units + 62 < cLine) (hx : x.depth ≤ 60) : ∃ b, ∀ (Q : Value → Shared → Prop) (E : Value → Shared → Prop), Q (.bool b) s → wpAny (model prog w) A (compareOp .Lt p q) Q E s := by
  cases h with
  | al ha hn =>
    refine ⟨_, fun Q E hq => PySem.W.rcLt_alike x y A s p q as bs ra rb ha hn ?_ prog w E Q hq⟩
    have : min x.depth y.depth ≤ x.depth := Nat.min_le_left _ _
    omega
  | @hd a b xs ys hne =>
    cases ra with
    | @tuple l o vs n _ _ h1 h2 h3 h4 =>
      cases rb with
      | @tuple l' o' vs' n' _ _ k1 k2 k3 k4 =>
        obtain ⟨vs⟩ := vs
        obtain ⟨vs'⟩ := vs'
        cases h4 with
        | @cons v1 vs1 _ _ _ _ r1 r2 =>
          cases k4 with
          | @cons v2 vs2 _ _ _ _ q1 q2 =>
            cases r1 with
            | str _ t =>
              cases q1 with
              | str _ u =>
                obtain ⟨c, dd, dt, sl⟩ := o
                obtain ⟨c', dd', dt', sl'⟩ := o'
                simp only at h2 h3 k2 k3
                subst h2 h3 k2 k3
                refine ⟨decide (a.cps.toList < b.cps.toList), fun Q E hq => ?_⟩
                exact richCompare_meets_room (op := .Lt) ⟨_, h1, rfl⟩ ⟨_, k1, rfl⟩ PySem.F.slot_tuple_lt PySem.F.entry_tuple_lt (PySem.F.args_tuple_lt_2 _ _) (tup_lt_head l l' vs1 vs2 n n' dd dd' sl sl' a b t u hne)
                  ⟨h1, k1, ⟨(fun z => nomatch z), hq⟩⟩ (by omega)
theorem fo_tells {fin : Bool} (hu : A.units + 62 < cLine) : ∀ {i : Nat} {xs ys : List PyData} {vs ws : List Value} {as bs : List Addr}, FO i xs ys → ReadsAll s.heap vs xs as → ReadsAll s.heap ws ys bs → PyData.plainAll xs = true → PyData.plainAll ys = true → (∀ x ∈ xs, x.depth ≤ 60) →
    ∃ b, PySem.W.KatLex prog w A true fin (fun r s' => s' = s ∧ r = b) (vs.zip ws) i s := by
  intro i xs ys vs ws as bs h
  induction h generalizing vs ws as bs with
  | nil =>
    intro ra _ _ _ _
    cases ra
    exact ⟨fin, PySem.W.kat_nil ⟨rfl, rfl⟩⟩
  | nil2 =>
    intro _ rb _ _ _
    cases rb
    rw [List.zip_nil_right]
    exact ⟨fin, PySem.W.kat_nil ⟨rfl, rfl⟩⟩
  | eq he _ ih =>
    intro ra rb pa pb hd
    rw [PyData.plainAll, Bool.and_eq_true] at pa pb
    cases ra with
    | cons r1 r2 =>
      cases rb with
      | cons q1 q2 =>
        obtain ⟨b, hb⟩ := ih r2 q2 pa.2 pb.2 fun x hx => hd x (List.mem_cons_of_mem _ hx)
        refine ⟨b, PySem.W.kat_cons (PySem.SeqAt.eqAt_plain _ _ A s _ _ _ _ r1 q1 pa.1 pb.1 ?_ prog w _ _ ?_)⟩
        · have := hd _ (List.mem_cons_self ..)
          exact Nat.lt_of_le_of_lt (Nat.add_le_add_left (Nat.le_trans (Nat.min_le_left _ _) (Nat.le_trans this (by decide : 60 ≤ 62))) _) hu
        · rw [he]
          exact PySem.W.kat_yes hb
  | @s0 sa sb _ _ he =>
    intro ra rb pa pb hd
    rw [PyData.plainAll, Bool.and_eq_true] at pa pb
    cases ra with
    | cons r1 r2 =>
      cases rb with
      | cons q1 q2 =>
        refine ⟨decide (sa.cps.toList < sb.cps.toList), PySem.W.kat_cons (PySem.SeqAt.eqAt_plain _ _ A s _ _ _ _ r1 q1 pa.1 pb.1 ?_ prog w _ _ ?_)⟩
        · have := hd _ (List.mem_cons_self ..)
          exact Nat.lt_of_le_of_lt (Nat.add_le_add_left (Nat.le_trans (Nat.min_le_left _ _) (Nat.le_trans this (by decide : 60 ≤ 62))) _) hu
        · rw [he]
          cases r1
          cases q1
          exact PySem.W.kat_no (PyProof.Rows.oneLt_str ⟨rfl, rfl⟩)
  | lt he hl =>
    intro ra rb pa pb hd
    rw [PyData.plainAll, Bool.and_eq_true] at pa pb
    cases ra with
    | cons r1 r2 =>
      cases rb with
      | cons q1 q2 =>
        obtain ⟨b, hb⟩ := ltS_tells (prog := prog) (w := w) hl r1 q1 hu (hd _ (List.mem_cons_self ..))
        refine ⟨b, PySem.W.kat_cons (PySem.SeqAt.eqAt_plain _ _ A s _ _ _ _ r1 q1 pa.1 pb.1 ?_ prog w _ _ ?_)⟩
        · have := hd _ (List.mem_cons_self ..)
          exact Nat.lt_of_le_of_lt (Nat.add_le_add_left (Nat.le_trans (Nat.min_le_left _ _) (Nat.le_trans this (by decide : 60 ≤ 62))) _) hu
        · rw [he]
          refine PySem.W.kat_no ?_
          rename_i i' _ _ _ _ _ _ _ _ _ _ _ _
          have e0 : (true && (i' + 1 == 0)) = false := rfl
          rw [e0]
          exact PySem.W.kat_one _ _ (hb _ _ ⟨rfl, rfl⟩)
end
/-- rows that can be sorted -/
structure RowsOk (ds : List PyData) : Prop where
  tup : ∀ d ∈ ds, ∃ k xs, d = .tuple (.str k :: xs) ∧ PyData.plainAll (.str k :: xs) = true ∧ ∀ x ∈ (PyData.str k :: xs), x.depth ≤ 60
  cmp : ∀ xs ys, .tuple xs ∈ ds → .tuple ys ∈ ds → FO 0 xs ys
section
variable {prog : Program} {w : World} {A : Around} {s : Shared}
theorem reads_mem {h : Heap} : ∀ {vs : List Value} {ds : List PyData} {as : List Addr}, ReadsAll h vs ds as → ∀ v ∈ vs, ∃ d ∈ ds, ∃ bs, Reads h v d bs
  | _, _, _, .nil, v, hv => nomatch hv
  | _, _, _, .cons (d := d) r rs, v, hv => by
    rcases List.mem_cons.mp hv with rfl | hv
    · exact ⟨d, List.mem_cons_self .., _, r⟩
    · obtain ⟨d', hd, bs, r'⟩ := reads_mem rs v hv
      exact ⟨d', List.mem_cons_of_mem _ hd, bs, r'⟩
theorem rows_tot {vs : List Value} {ds : List PyData} {as : List Addr} (hu : A.units + 62 < cLine) (ra : ReadsAll s.heap vs ds as) (h : RowsOk ds) : Srt.Tot prog w A s (PyProof.Rows.tuples' true) (fun p => p.1 ∈ vs) := by
  intro p q hm hm'
  obtain ⟨d, hd, b1, r1⟩ := reads_mem ra _ hm
  obtain ⟨d', hd', b2, r2⟩ := reads_mem ra _ hm'
  obtain ⟨k, xs, rfl, p1, e1⟩ := h.tup d hd
  obtain ⟨k', ys, rfl, p2, e2⟩ := h.tup d' hd'
  generalize p.1 = pv at r1
  generalize q.1 = qv at r2
  cases r1 with
  | @tuple l o us n _ _ h1 h2 h3 h4 =>
    cases r2 with
    | @tuple l' o' us' n' _ _ k1 k2 k3 k4 =>
      obtain ⟨b, hb⟩ := fo_tells (prog := prog) (w := w) (fin := decide (us.size < us'.size)) hu (h.cmp _ _ hd hd') h4 k4 p1 p2 e1
      exact ⟨b, PySem.W.kat_lt h1 h3 k1 k3 hb⟩
theorem rows_firsts {h : Heap} : ∀ {vs : List Value} {ds : List PyData} {as : List Addr}, ReadsAll h vs ds as → (∀ d ∈ ds, ∃ k xs, d = PyData.tuple (.str k :: xs)) → ∃ fs : List Value, PySem.W.KatTups h vs fs ∧ fs.length = vs.length ∧ ∀ f ∈ fs, ∃ x t, f = Value.str x t
  | _, _, _, .nil, _ => ⟨[], PySem.W.KatTups.nil, rfl, fun _ hm => nomatch hm⟩
  | _, _, _, .cons (d := d) r rs, ht => by
    obtain ⟨fs, h1, h2, h3⟩ := rows_firsts rs fun d hd => ht d (List.mem_cons_of_mem _ hd)
    obtain ⟨k, xs, rfl⟩ := ht d (List.mem_cons_self ..)
    cases r with
    | @tuple l o us n _ _ g1 g2 g3 g4 =>
      obtain ⟨us⟩ := us
      cases g4 with
      | @cons v1 vs1 _ _ _ _ r1 r2 =>
        cases r1 with
        | str _ t =>
          refine ⟨.str k t :: fs, PySem.W.KatTups.cons g1 g2 g3 (by simp) h1, by rw [List.length_cons, List.length_cons, h2], fun f hm => ?_⟩
          rcases List.mem_cons.mp hm with rfl | hm
          · exact ⟨k, t, rfl⟩
          · exact h3 f hm
end
section
variable {X : Cx}
/-- sorted(rows): the same rows in some order -/
def rSortRows (K : PySem.W.Frag) : List V → Hp → VK → Prop := fun xs H Q => ∃ (a : Addr) (vs : List V) (ds : List PyData), xs = [.ref a] ∧ SqL K H a vs ∧ DpAll K H vs ds ∧ RowsOk ds ∧ ∀ (ys : List V) (p : Addr), ys.Perm vs → H p = none → Q (.ref p) (upd H p (.lst ys))
theorem refs_dp {K : PySem.W.Frag} {H : Hp} : ∀ {vs : List V} {ds : List PyData}, DpAll K H vs ds → (∀ d ∈ ds, ∃ xs, d = PyData.tuple xs) → ∀ v ∈ vs, ∃ t, v = V.ref t
  | _, _, .nil, _, v, hv => nomatch hv
  | _, _, .cons (d := d) r rs, ht, v, hv => by
    rcases List.mem_cons.mp hv with rfl | hv
    · obtain ⟨xs, rfl⟩ := ht d (List.mem_cons_self ..)
      cases r with
      | tup _ _ => exact ⟨_, rfl⟩
    · exact refs_dp rs (fun d hd => ht d (List.mem_cons_of_mem _ hd)) v hv
theorem cr_sortRows (hu : X.A.units + 65 < cLine) : CallR X (.builtin "sorted") (rSortRows X.K) := by
  intro pins s σ H vs us Q I r h
  obtain ⟨a, xs, ds, rfl, hs, hx, hok, q⟩ := h
  obtain ⟨its, rv, hl, hz⟩ := I.list hs
  obtain ⟨u, rfl, ru⟩ := vals1 r
  obtain rfl : u = Value.ref a := ru
  obtain ⟨as, ra⟩ := Dp.readsAll I ds xs its hx rv
  obtain ⟨e1, e2⟩ := refs_back rv (refs_dp hx fun d hd => by obtain ⟨k, ys, e, _⟩ := hok.tup d hd; exact ⟨_, e⟩)
  refine Srt.sorted_any hl.isList (by rw [← rv.length]; exact hz) (fun h2 h₁ a' ha k => ?_) fun out ho => ?_
  · intro h' keep
    have kk : ∀ b o, s.heap.get? b = some o → h'.get? b = some o := fun b o e => keep b o (k b o e).1 (k b o e).2
    have ra' : ReadsAll h' its ds as := ReadsAll.keeps kk ra
    obtain ⟨fs, g1, g2, g3⟩ := rows_firsts ra' fun d hd => by obtain ⟨k, ys, e, _⟩ := hok.tup d hd; exact ⟨k, ys, e⟩
    refine ⟨PyProof.Rows.tuples' true, fun Q E hq => ?_, rows_tot (s := { s with heap := h' }) (by show X.A.units + 1 + 1 + 62 < cLine; omega) ra' hok⟩
    refine PySem.W.kat_kind (T := .type "str") g1 (by omega) (fun f hm => ?_) (by rfl) ?_
    · obtain ⟨x, t, rfl⟩ := g3 f hm
      exact PySem.W.Looks.now
    · have e : (Value.type "str" != Value.type "tuple") = true := by first | decide +kernel | rfl | decide
      rw [e]
      exact hq
  · have h3 : ∀ u ∈ out, ∃ a, u = Value.ref a := fun u hu => e2 u (ho.mem_iff.mp hu)
    obtain ⟨n, hn⟩ := PyProof.Rows.sortedAll_at s.heap its out.toArray
    refine ⟨.ref (s.heap.objs.size + 1), upd H (s.heap.objs.size + 1) (.lst (out.map backV)), I.laid (t' := s.toks) (fun b o e => PyProof.Rows.sortedAll_old e) (Nat.le_succ _) ⟨?_, out, n, vals_back h3, hn⟩, rfl, q _ _ ?_ (I.hok.fresh (Nat.le_succ _))⟩
    · rw [List.length_map, ho.length_eq, ← rv.length]; exact hz
    · rw [e1]; exact ho.map backV
end
/-! ### a grammar's rows can be sorted -/
theorem fo_self : ∀ (xs : List PyData) (i : Nat), PyData.plainAll xs = true → FO i xs xs
  | [], _, _ => .nil
  | x :: xs, i, h => by
    rw [PyData.plainAll, Bool.and_eq_true] at h
    exact .eq (PySem.SeqAt.eqv_refl_plain x h.1) (fo_self xs (i + 1) h.2)
theorem plain_names : ∀ ws : List (List Nat), PyData.plainAll (ws.map strD) = true
  | [] => rfl
  | _ :: ws => plain_names ws
theorem depth_names : ∀ ws : List (List Nat), PyData.depthAll (ws.map strD) = 0
  | [] => rfl
  | w :: ws => by
    show max 0 (PyData.depthAll (ws.map strD)) = 0
    rw [depth_names ws]
    rfl
theorem en_plain (e : En) : e.d.plain = true := by cases e <;> rfl
theorem od_plain (o : Od) : o.d.plain = true := by
  cases o with
  | en e => exact en_plain e
  | own => rfl
  | num n => rfl
theorem ods_plain : ∀ os : List Od, PyData.plainAll (os.map Od.d) = true
  | [] => rfl
  | o :: os => by
    show (o.d.plain && PyData.plainAll (os.map Od.d)) = true
    rw [od_plain o, ods_plain os]
    rfl
theorem en_depth (e : En) : e.d.depth ≤ 1 := by cases e <;> exact Nat.le_refl _
theorem od_depth (o : Od) : o.d.depth ≤ 1 := by
  cases o with
  | en e => exact en_depth e
  | own => exact Nat.le_refl _
  | num n => exact Nat.le_refl _
theorem ods_depth : ∀ os : List Od, PyData.depthAll (os.map Od.d) ≤ 1
  | [] => Nat.zero_le _
  | o :: os => by
    show max o.d.depth (PyData.depthAll (os.map Od.d)) ≤ 1
    exact Nat.max_le.mpr ⟨od_depth o, ods_depth os⟩
theorem str_ne {a b : List Nat} (h : a ≠ b) : PyData.eqv (strD a) (strD b) = false := by
  show (SX.S a == SX.S b) = false
  rw [beq_eq_false_iff_ne]
  exact fun z => h (SX.S_inj z)
theorem str_eq (a : List Nat) : PyData.eqv (strD a) (strD a) = true := by
  show (SX.S a == SX.S a) = true
  exact beq_self_eq_true _
theorem by_name {α : Type} {f : α → List Nat} : ∀ {rs : List α}, (rs.map f).Nodup → ∀ r ∈ rs, ∀ r' ∈ rs, f r = f r' → r = r'
  | [], _, r, h, _, _, _ => nomatch h
  | x :: xs, hn, r, h, r', h', e => by
    rw [List.map_cons, List.nodup_cons] at hn
    rcases List.mem_cons.mp h with rfl | g
    · rcases List.mem_cons.mp h' with rfl | g'
      · rfl
      · exact absurd (e ▸ List.mem_map_of_mem g') hn.1
    · rcases List.mem_cons.mp h' with rfl | g'
      · exact absurd (e ▸ List.mem_map_of_mem g) hn.1
      · exact by_name hn.2 r g r' g' e
theorem rows_sorts {rs : List SRow} (h : SortsOk rs) : RowsOk (rs.map SRow.d) := by
  have pl : ∀ r : SRow, PyData.plainAll [strD r.nm, .tuple (r.dn.map strD), .tuple (r.up.map strD)] = true := fun r => by
    show (true && (PyData.plainAll (r.dn.map strD) && (PyData.plainAll (r.up.map strD) && true))) = true
    rw [plain_names, plain_names]
    rfl
  refine ⟨fun d hd => ?_, fun xs ys hx hy => ?_⟩
  · obtain ⟨r, _, rfl⟩ := List.mem_map.mp hd
    refine ⟨SX.S r.nm, _, rfl, pl r, fun x hx => ?_⟩
    simp only [List.mem_cons, List.not_mem_nil, or_false] at hx
    rcases hx with rfl | rfl | rfl
    · exact Nat.zero_le _
    · show PyData.depthAll (r.dn.map strD) + 1 ≤ 60
      rw [depth_names]
      decide
    · show PyData.depthAll (r.up.map strD) + 1 ≤ 60
      rw [depth_names]
      decide
  · obtain ⟨r, hr, e⟩ := List.mem_map.mp hx
    obtain ⟨r', hr', e'⟩ := List.mem_map.mp hy
    cases e
    cases e'
    by_cases hn : r.nm = r'.nm
    · rw [by_name h.nd r hr r' hr' hn]
      exact fo_self _ 0 (pl r')
    · exact .s0 (str_ne hn)
theorem rows_maks {ms : List MRow} (h : (ms.map MRow.nm).Nodup) : RowsOk (ms.map MRow.d) := by
  have pl : ∀ r : MRow, PyData.plainAll [strD r.nm, strD r.so, .tuple (r.pt.map strD)] = true := fun r => by
    show (true && (true && (PyData.plainAll (r.pt.map strD) && true))) = true
    rw [plain_names]
    rfl
  refine ⟨fun d hd => ?_, fun xs ys hx hy => ?_⟩
  · obtain ⟨r, _, rfl⟩ := List.mem_map.mp hd
    refine ⟨SX.S r.nm, _, rfl, pl r, fun x hx => ?_⟩
    simp only [List.mem_cons, List.not_mem_nil, or_false] at hx
    rcases hx with rfl | rfl | rfl
    · exact Nat.zero_le _
    · exact Nat.zero_le _
    · show PyData.depthAll (r.pt.map strD) + 1 ≤ 60
      rw [depth_names]
      decide
  · obtain ⟨r, hr, e⟩ := List.mem_map.mp hx
    obtain ⟨r', hr', e'⟩ := List.mem_map.mp hy
    cases e
    cases e'
    by_cases hn : r.nm = r'.nm
    · rw [by_name h r hr r' hr' hn]
      exact fo_self _ 0 (pl r')
    · exact .s0 (str_ne hn)
theorem rund_same : ∀ {ru : List RRow}, RuNd ru → ∀ r ∈ ru, ∀ r' ∈ ru, r.ma = r'.ma → r.tg = r'.tg → r = r'
  | [], _, r, h, _, _, _, _ => nomatch h
  | x :: xs, hn, r, h, r', h', e, e2 => by
    unfold RuNd at hn
    rw [List.pairwise_cons] at hn
    rcases List.mem_cons.mp h with rfl | g
    · rcases List.mem_cons.mp h' with rfl | g'
      · rfl
      · exact absurd e2 (hn.1 r' g' e)
    · rcases List.mem_cons.mp h' with rfl | g'
      · exact absurd e2.symm (hn.1 r g e.symm)
      · exact rund_same hn.2 r g r' g' e e2
theorem en_lt {e e' : En} : LtS e.d e'.d := by
  cases e with
  | sp p w =>
    cases e' with
    | sp p' w' => exact .al rfl (fun z => nomatch z)
    | kept w' => exact .hd (by decide +kernel)
  | kept w =>
    cases e' with
    | sp p' w' => exact .hd (by decide +kernel)
    | kept w' => exact .al rfl (fun z => nomatch z)
theorem rows_rules {ru : List RRow} (h : RuNd ru) : RowsOk (ru.map RRow.d) := by
  have pl : ∀ r : RRow, PyData.plainAll [strD r.ma, r.tg.d, strD r.op, .tuple (r.os.map Od.d)] = true := fun r => by
    show (true && (r.tg.d.plain && (true && (PyData.plainAll (r.os.map Od.d) && true)))) = true
    rw [en_plain, ods_plain]
    rfl
  refine ⟨fun d hd => ?_, fun xs ys hx hy => ?_⟩
  · obtain ⟨r, _, rfl⟩ := List.mem_map.mp hd
    refine ⟨SX.S r.ma, _, rfl, pl r, fun x hx => ?_⟩
    simp only [List.mem_cons, List.not_mem_nil, or_false] at hx
    rcases hx with rfl | rfl | rfl | rfl
    · exact Nat.zero_le _
    · exact Nat.le_trans (en_depth _) (by decide)
    · exact Nat.zero_le _
    · show PyData.depthAll (r.os.map Od.d) + 1 ≤ 60
      have := ods_depth r.os
      omega
  · obtain ⟨r, hr, e⟩ := List.mem_map.mp hx
    obtain ⟨r', hr', e'⟩ := List.mem_map.mp hy
    cases e
    cases e'
    by_cases hn : r.ma = r'.ma
    · by_cases ht : r.tg = r'.tg
      · rw [rund_same h r hr r' hr' hn ht]
        exact fo_self _ 0 (pl r')
      · refine .eq (by rw [hn]; exact str_eq _) (.lt ?_ en_lt)
        rw [en_eqv]
        exact decide_eq_false ht
    · exact .s0 (str_ne hn)
/-! ### a grammar is made -/
abbrev s_GI : Stmt := inClass (top 51) 0
abbrev N_GI : List Str := ["self", "sorts", "makings", "rules", "cap", "making"]
abbrev P_GI : List Str := ["self", "sorts", "makings", "rules", "cap"]
theorem sc_GI : FnScope N_GI P_GI (defScope s_GI) := ⟨rfl, rfl, rfl, by decide +kernel, rfl, by decide +kernel, by decide +kernel⟩
theorem ins_no {C dx : Addr} {fs : List (Str × V)} : ¬ TupO (.ins C dx fs) := fun h => by
  rcases h with ⟨_, e⟩ | ⟨_, _, e⟩ <;> cases e
abbrev g1 (a : V) : List (Str × V) := [("top", a)]
abbrev g2 (a b : V) : List (Str × V) := [("top", a), ("sort_table", b)]
abbrev g3 (a b c : V) : List (Str × V) := [("top", a), ("sort_table", b), ("making_table", c)]
abbrev g4 (a b c d : V) : List (Str × V) := [("top", a), ("sort_table", b), ("making_table", c), ("rule_table", d)]
abbrev g5 (a b c d e : V) : List (Str × V) := [("top", a), ("sort_table", b), ("making_table", c), ("rule_table", d), ("kept_table", e)]
abbrev g6 (a b c d e f : V) : List (Str × V) := [("top", a), ("sort_table", b), ("making_table", c), ("rule_table", d), ("kept_table", e), ("risen", f)]
theorem pf1 (a : V) : putF "top" a [] = g1 a := by with_unfolding_all rfl
theorem pf2 (a b : V) : putF "sort_table" b (g1 a) = g2 a b := by with_unfolding_all rfl
theorem pf3 (a b c : V) : putF "making_table" c (g2 a b) = g3 a b c := by with_unfolding_all rfl
theorem pf4 (a b c d : V) : putF "rule_table" d (g3 a b c) = g4 a b c d := by with_unfolding_all rfl
theorem pf5 (a b c d e : V) : putF "kept_table" e (g4 a b c d) = g5 a b c d e := by with_unfolding_all rfl
theorem pf6 (a b c d e f : V) : putF "risen" f (g5 a b c d e) = g6 a b c d e f := by with_unfolding_all rfl
theorem lk2 (a b : V) : (g2 a b).lookup (("sort_table" : String) : Str) = some b := by with_unfolding_all rfl
theorem lk3 (a b c : V) : (g3 a b c).lookup (("making_table" : String) : Str) = some c := by with_unfolding_all rfl
theorem lk3b (a b c : V) : (g3 a b c).lookup (("sort_table" : String) : Str) = some b := by with_unfolding_all rfl
theorem lk4 (a b c d : V) : (g4 a b c d).lookup (("making_table" : String) : Str) = some c := by with_unfolding_all rfl
theorem lk4b (a b c d : V) : (g4 a b c d).lookup (("rule_table" : String) : Str) = some d := by with_unfolding_all rfl
/-- {k: v for .. in ..} over any walk -/
theorem dc_it {J : It} {n : Nat} {G : Hp → Prop} {Yd : Nat → Hp → V → Hp → Prop} (Wk : Walk J n G Yd) {g : TG} {tt : TT} {tk tv : TE} {vs : List Nat} {σ : L2.St} {H1 : Hp} {D : Addr} {Qd : Hp → Prop} (Pv : Nat → Hp → Prop) (h0 : Pv 0 (upd H1 D (.dK []))) (hl : ∀ i H, i ≤ n → Pv i H → G H)
    (hs : ∀ i x H H', i < n → Pv i H → Yd i H x H' → g x (wipe σ vs) H' fun σ2 H2 => wipe σ2 vs = wipe σ vs ∧ tt σ2 H2 fun b H3 =>
      if b = true then tk σ2 H3 fun y H4 => tv σ2 H4 fun z H5 => ∃ kvs k, y = kV k ∧ H5 D = some (.dK kvs) ∧ kvs.length < sizeLine ∧ Pv (i + 1) (upd H5 D (.dK (putK kvs k z))) else Pv (i + 1) H3) (hd : ∀ H, Pv n H → Qd H) :
    ∃ W : Nat → Nat → Hp → Prop, (∃ m, W 0 m (upd H1 D (.dK []))) ∧ ∀ i m H, W i m H →
      (J.stop i H ∧ Qd H) ∨ (J.go i H ∧ ∃ Nx : Hp → Prop, (∀ H', Nx H' → ∃ m', m' < m ∧ W (i + 1) m' H') ∧ ∀ x H', J.yld i H x H' → g x (wipe σ vs) H' fun σ2 H2 => wipe σ2 vs = wipe σ vs ∧ tt σ2 H2 fun b H3 =>
        if b = true then tk σ2 H3 fun y H4 => tv σ2 H4 fun z H5 => ∃ kvs k, y = kV k ∧ H5 D = some (.dK kvs) ∧ kvs.length < sizeLine ∧ Nx (upd H5 D (.dK (putK kvs k z))) else Nx H3) := by
  refine ⟨fun i m H => m = n - i ∧ i ≤ n ∧ Pv i H, ⟨n, by simp, Nat.zero_le _, h0⟩, ?_⟩
  rintro i m H ⟨rfl, hi, p⟩
  have q := hl i H hi p
  by_cases hlt : i < n
  · exact .inr ⟨Wk.goes i H hlt q, Pv (i + 1), fun H' p' => ⟨n - (i + 1), by omega, rfl, hlt, p'⟩, fun x H' y => hs i x H H' hlt p (Wk.yields i H x H' hlt q y)⟩
  · have e : i = n := by omega
    subst e
    exact .inl ⟨Wk.stops H q, hd H p⟩
theorem pe_fldK {X : Cx} {K' : PySem.W.Frag} {e : Expr} {f : Str} {pos : Pos} {ta : TE} (hK : X.K = K') (he : PE X e ta) (hb : attributeBase e f X.env (eval e X.env) = eval e X.env) : PE X (.Attribute e f pos) (tFld K' ta f) := by
  subst hK
  exact pe_fld he hb
theorem tab_at {K : PySem.W.Frag} {H : Hp} {k : Key} {v : V} : ∀ {kvs : List (Key × V)} {ms : List MRow} {i : Nat}, Tab K H kvs (ms.map mT) → kvs[i]? = some (k, v) → ∃ m, ms[i]? = some m ∧ k = kS m.nm
  | [], _, _, _, h => by cases h
  | _ :: _, [], _, t, _ => by cases t
  | p :: kvs, m :: ms, 0, t, h => by
    cases t with
    | cons a _ =>
      cases h
      exact ⟨m, rfl, a.1⟩
  | p :: kvs, m :: ms, i + 1, t, h => by
    cases t with
    | cons _ r =>
      obtain ⟨m', e, hk⟩ := tab_at (i := i) r h
      exact ⟨m', e, hk⟩
/-- what the rows of a grammar keep to -/
structure GFit (rs : List SRow) (ms : List MRow) (ru : List RRow) (roof : Nat) : Prop where
  so : SortsOk rs
  nd : (ms.map MRow.nm).Nodup
  ok : ∀ m ∈ ms, MOk rs m
  m8 : ms.length ≤ 8
  ra : ∀ r ∈ ru, RuleOk rs ms roof r
  rn : RuNd ru
  rl : ru.length ≤ 240
  kf : KeptFew ru
  ko : ∀ m ∈ ms, (gotTx ((keptNames m.nm ru).map SX.S)).length ≤ 2
  rf : roof ≤ 9
/-- the class, in the written part -/
structure GCls (K : PySem.W.Frag) (C : Addr) : Prop where
  c : Cls K C
  top : NoAttr K C "top"
  sort : NoAttr K C "sort_table"
  making : NoAttr K C "making_table"
  rule : NoAttr K C "rule_table"
  kept : NoAttr K C "kept_table"
  risen : NoAttr K C "risen"
/-- what is kept of each making -/
def KTab (Z H : Hp) (kd : Addr) (ms : List MRow) (ru : List RRow) : Prop := ∃ kk, H kd = some (.dK kk) ∧ ∀ m ∈ ms, ∃ l ys, valV kk (kS m.nm) = some (.ref l) ∧ Z l = none ∧ H l = some (.lst (ys.map V.str)) ∧ ys.Perm (gotTx ((keptNames m.nm ru).map SX.S)) ∧ sortedS ys = true
/-- a grammar on the heap -/
structure GrOk (K : PySem.W.Frag) (P : Program) (w : World) (C : Addr) (Z H : Hp) (x : Addr) (rs : List SRow) (ms : List MRow) (ru : List RRow) (roof : Nat) : Prop where
  ex : ∃ dx sd md rd kd rt, H x = some (.ins C dx [("top", .int roof), ("sort_table", .ref sd), ("making_table", .ref md), ("rule_table", .ref rd), ("kept_table", .ref kd), ("risen", .ref rt)]) ∧
    (∃ skv, H sd = some (.dK skv) ∧ Tab K H skv (rs.map sT)) ∧ (∃ kvs, H md = some (.dK kvs) ∧ Tab K H kvs (ms.map mT)) ∧ (∃ nvs, H rd = some (dnO P w rd nvs) ∧ RPr K H nvs ru) ∧ KTab Z H kd ms ru
theorem GrOk.less {K : PySem.W.Frag} {P : Program} {w : World} {C : Addr} {Z Z' H : Hp} {x : Addr} {rs : List SRow} {ms : List MRow} {ru : List RRow} {roof : Nat} (h : GrOk K P w C Z' H x rs ms ru roof) (s : Same Z Z') : GrOk K P w C Z H x rs ms ru roof := by
  obtain ⟨dx, sd, md, rd, kd, rt, hx, h1, h2, h3, kk, hk, h4⟩ := h.ex
  exact ⟨dx, sd, md, rd, kd, rt, hx, h1, h2, h3, kk, hk, fun m hm => by
    obtain ⟨l, ys, q1, q2, q3⟩ := h4 m hm
    exact ⟨l, ys, q1, s.free q2, q3⟩⟩
theorem sT_imms (rs : List SRow) : ∀ t ∈ rs.map sT, imm t.r = true := fun t ht => by
  obtain ⟨r', _, e⟩ := List.mem_map.mp ht
  rw [← e]
  exact sT_imm r'
theorem mT_imms (ms : List MRow) : ∀ t ∈ ms.map mT, imm t.r = true := fun t ht => by
  obtain ⟨r', _, e⟩ := List.mem_map.mp ht
  rw [← e]
  exact mT_imm r'
theorem GrOk.but {K : PySem.W.Frag} {P : Program} {w : World} {C : Addr} {Z H H' : Hp} {x a : Addr} {b : List V} {rs : List SRow} {ms : List MRow} {ru : List RRow} {roof : Nat} (h : GrOk K P w C Z H x rs ms ru roof) (hZ : Z a ≠ none) (ha : H a = some (.lst b)) (s : But a H H') : GrOk K P w C Z H' x rs ms ru roof := by
  obtain ⟨dx, sd, md, rd, kd, rt, hx, ⟨skv, hs, ts⟩, ⟨mkv, hm, tm⟩, ⟨nvs, hn, tn⟩, kk, hk, h4⟩ := h.ex
  have k := KeepT.but ha s
  have nd : ∀ {c : Addr} {o : HO}, H c = some o → (∀ xs, o ≠ .lst xs) → H' c = some o := fun {c o} e n => s c o (fun z => by
    rw [z, ha] at e
    exact n _ (Option.some.inj e).symm) e
  exact ⟨dx, sd, md, rd, kd, rt, nd hx (fun _ z => nomatch z), ⟨skv, nd hs (fun _ z => nomatch z), ts.keep k (sT_imms rs)⟩, ⟨mkv, nd hm (fun _ z => nomatch z), tm.keep k (mT_imms ms)⟩, ⟨nvs, nd hn (fun _ z => nomatch z), tn.keep k⟩, kk, nd hk (fun _ z => nomatch z), fun m hm' => by
    obtain ⟨l, ys, q1, q2, q3, q4⟩ := h4 m hm'
    exact ⟨l, ys, q1, q2, s _ _ (fun z => hZ (by rw [← z]; exact q2)) q3, q4⟩⟩
theorem GrOk.same {K : PySem.W.Frag} {P : Program} {w : World} {C : Addr} {Z H H' : Hp} {x : Addr} {rs : List SRow} {ms : List MRow} {ru : List RRow} {roof : Nat} (h : GrOk K P w C Z H x rs ms ru roof) (s : Same H H') : GrOk K P w C Z H' x rs ms ru roof := by
  obtain ⟨dx, sd, md, rd, kd, rt, hx, ⟨skv, hs, ts⟩, ⟨mkv, hm, tm⟩, ⟨nvs, hn, tn⟩, kk, hk, h4⟩ := h.ex
  have k := KeepT.of s
  exact ⟨dx, sd, md, rd, kd, rt, s _ _ hx, ⟨skv, s _ _ hs, ts.keep k (sT_imms rs)⟩, ⟨mkv, s _ _ hm, tm.keep k (mT_imms ms)⟩, ⟨nvs, s _ _ hn, tn.keep k⟩, kk, s _ _ hk, fun m hm' => by
    obtain ⟨l, ys, q1, q2, q3, q4⟩ := h4 m hm'
    exact ⟨l, ys, q1, q2, s _ _ q3, q4⟩⟩
def spGI (K : PySem.W.Frag) (P : Program) (w : World) (C : Addr) : Sp := fun vs H Q _ => ∃ (x dx ls lm lr : Addr) (roof : Nat) (sv mv rv : List V) (rs : List SRow) (ms : List MRow) (ru : List RRow), vs = [.ref x, .ref ls, .ref lm, .ref lr, .int roof] ∧ H x = some (.ins C dx []) ∧ H ls = some (.lst sv) ∧ H lm = some (.lst mv) ∧ H lr = some (.lst rv) ∧
  DpAll K H sv (rs.map SRow.d) ∧ DpAll K H mv (ms.map MRow.d) ∧ DpAll K H rv (ru.map RRow.d) ∧ GFit rs ms ru roof ∧ ∀ H', But x H H' → GrOk K P w C H H' x rs ms ru roof → Q .non H'
section
variable {P : Program} {w : World} {K : PySem.W.Frag} {mg : Str → Option Value} {base : Heap} {C : Addr}
theorem ok_GI {f : Addr} {fd : FuncData} (T : Gb mg) (gc : GCls K C) (ccap_in : C8.Cal P w K mg base 2 "cap_in" spCap []) (csorts_in : C8.Cal P w K mg base 4 "sorts_in" (spSortsIn K) []) (cmakings_in : C8.Cal P w K mg base 4 "makings_in" (spMaksIn K) []) (crules_in : C8.Cal P w K mg base 5 "rules_in" (spRulesIn K P w) []) (ckept_by : C8.Cal P w K mg base 1 "kept_by" (spKeptBy K P w) [])
    (F : FunD K "__init__" "Grammar.__init__" (defArgs s_GI) (defBody s_GI) (defScope s_GI) [] [("cap", .int 0)] f fd) : FnOk P w K mg base CX0 6 f fd P_GI (spGI K P w C) := by
  refine F.ok sc_GI (fun vs H Q E h => ?_) (fun cdv A outer s H vs Q E hr h => ?_)
  · obtain ⟨x, dx, ls, lm, lr, roof, sv, mv, rv, rs, ms, ru, rfl, _⟩ := h
    rfl
  · obtain ⟨x, dx, ls, lm, lr, roof, sv, mv, rv, rs, ms, ru, rfl, hx, hls, hlm, hlr, hsv, hmv, hrv, gf, q⟩ := h
    refine ⟨_, pss_cons (ps_fld (pv 0) (C8.pe_c ccap_in hr (by decide) (by rfl) (pa_cons (pv 4) pa_nil)) (by rfl))
      (pss_cons (ps_fld (pv 0) (C8.pe_c csorts_in hr (by decide) (by rfl) (pa_cons (pv 1) pa_nil)) (by rfl))
      (pss_cons (ps_fld (pv 0) (C8.pe_c cmakings_in hr (by decide) (by rfl) (pa_cons (pv 2) (pa_cons (pe_fld (pv 0) (by rfl)) pa_nil))) (by rfl))
      (pss_cons (ps_fld (pv 0) (C8.pe_c crules_in hr (by decide) (by rfl) (pa_cons (pv 3) (pa_cons (pe_fld (pv 0) (by rfl)) (pa_cons (pe_fld (pv 0) (by rfl)) (pa_cons (pv 4) pa_nil))))) (by rfl))
      (pss_cons (ps_fld (pv 0) (pe_lock (pe_dc (own := [("making", 5)]) rfl sc_GI.nd (pi_keys (pe_fld (pv 0) (by rfl))) (blkOk_by (own := [("making", 5)]) (N := N_GI) (sc := defScope s_GI) (by decide +kernel)) (fun _ _ _ _ _ => pg_name (i := 5) sc_GI.nd rfl (Or.inl rfl)) (fun _ _ _ _ _ => pts_nil) (fun _ _ _ _ _ => pv 5) (fun _ _ _ _ _ => C8.pe_c ckept_by hr (by decide) (by rfl) (pa_cons (pv 5) (pa_cons (pe_fldK (K' := K) (by rfl) (pv 0) (by rfl)) pa_nil))))) (by rfl))
      (pss_one (ps_fld (pv 0) (pe_tup (pa_cons (pv 4) (pa_cons (pe_callB (cr_sortRows (hu65 hr)) (by rfl) T.sorted (by decide +kernel) (pa_cons (pv 1) pa_nil)) (pa_cons (pe_callB (cr_sortRows (hu65 hr)) (by rfl) T.sorted (by decide +kernel) (pa_cons (pv 2) pa_nil)) (pa_cons (pe_callB (cr_sortRows (hu65 hr)) (by rfl) T.sorted (by decide +kernel) (pa_cons (pv 3) pa_nil)) pa_nil))))) (by rfl))))))), ?_⟩
    have nls : ls ≠ x := fun z => by
      rw [z, hx] at hls
      cases hls
    have nlm : lm ≠ x := fun z => by
      rw [z, hx] at hlm
      cases hlm
    have nlr : lr ≠ x := fun z => by
      rw [z, hx] at hlr
      cases hlr
    have si : ∀ t ∈ rs.map sT, imm t.r = true := fun t ht => by
      obtain ⟨r', _, e⟩ := List.mem_map.mp ht
      rw [← e]
      exact sT_imm r'
    have mi : ∀ t ∈ ms.map mT, imm t.r = true := fun t ht => by
      obtain ⟨r', _, e⟩ := List.mem_map.mp ht
      rw [← e]
      exact mT_imm r'
    -- the cap
    refine ⟨_, rfl, roof, rfl, gf.rf, _, rfl, x, C, dx, [], rfl, hx, gc.c, gc.top, by decide, ?_⟩
    obtain ⟨H1, e1⟩ : ∃ H1, H1 = upd H x (.ins C dx (putF "top" (.int roof) [])) := ⟨_, rfl⟩
    rw [← e1]
    have hx1 : H1 x = some (.ins C dx (g1 (.int roof))) := by rw [e1, upd_same, pf1]
    have b1 : But x H H1 := e1 ▸ But.upd (But.refl x H)
    have k1 : KeepT H H1 := e1 ▸ KeepT.at_ hx ins_no
    -- the sorts
    refine ⟨_, rfl, ls, sv, rs, rfl, b1 _ _ nls hls, dpAll_imm k1 hsv (immAll_map SRow.imm rs), gf.so, fun H2 sd skv s2 nsd hsd htab => ?_⟩
    refine ⟨_, rfl, x, C, dx, _, rfl, s2 _ _ hx1, gc.c, gc.sort, by show 1 < 1000; decide, ?_⟩
    obtain ⟨H3, e3⟩ : ∃ H3, H3 = upd H2 x (.ins C dx (putF "sort_table" (.ref sd) (g1 (.int roof)))) := ⟨_, rfl⟩
    rw [← e3]
    have hx3 : H3 x = some (.ins C dx (g2 (.int roof) (.ref sd))) := by rw [e3, upd_same, pf2]
    have b23 : But x H2 H3 := e3 ▸ But.upd (But.refl x H2)
    have k23 : KeepT H2 H3 := e3 ▸ KeepT.at_ (s2 _ _ hx1) ins_no
    have b3 : But x H H3 := (b1.trans (But.of s2)).trans b23
    have k3 : KeepT H H3 := (k1.trans (KeepT.of s2)).trans k23
    have nsx : sd ≠ x := fun z => by
      rw [z, hx1] at nsd
      cases nsd
    have hsd3 := b23 _ _ nsx hsd
    have htab3 := htab.keep k23 si
    -- the makings
    refine ⟨_, rfl, _, rfl, x, C, dx, _, .ref sd, rfl, hx3, gc.c, gc.sort, lk2 _ _, lm, sd, mv, rs, ms, skv, rfl, b3 _ _ nlm hlm, dpAll_imm k3 hmv (immAll_map MRow.imm ms), gf.so, gf.nd, gf.ok, gf.m8, hsd3, htab3, fun H4 md kvs s4 nmd hmd hmtab => ?_⟩
    refine ⟨_, rfl, x, C, dx, _, rfl, s4 _ _ hx3, gc.c, gc.making, by show 2 < 1000; decide, ?_⟩
    obtain ⟨H5, e5⟩ : ∃ H5, H5 = upd H4 x (.ins C dx (putF "making_table" (.ref md) (g2 (.int roof) (.ref sd)))) := ⟨_, rfl⟩
    rw [← e5]
    have hx5 : H5 x = some (.ins C dx (g3 (.int roof) (.ref sd) (.ref md))) := by rw [e5, upd_same, pf3]
    have b45 : But x H4 H5 := e5 ▸ But.upd (But.refl x H4)
    have k45 : KeepT H4 H5 := e5 ▸ KeepT.at_ (s4 _ _ hx3) ins_no
    have b5 : But x H H5 := (b3.trans (But.of s4)).trans b45
    have k5 : KeepT H H5 := (k3.trans (KeepT.of s4)).trans k45
    have nmx : md ≠ x := fun z => by
      rw [z, hx3] at nmd
      cases nmd
    have hmd5 := b45 _ _ nmx hmd
    have hmtab5 := hmtab.keep k45 mi
    have hsd5 := b45 _ _ nsx (s4 _ _ hsd3)
    have htab5 := htab3.keep ((KeepT.of s4).trans k45) si
    -- the rules
    refine ⟨_, rfl, _, rfl, x, C, dx, _, .ref md, rfl, hx5, gc.c, gc.making, lk3 _ _ _, _, rfl, x, C, dx, _, .ref sd, rfl, hx5, gc.c, gc.sort, lk3b _ _ _, _, rfl, lr, md, sd, roof, rv, rs, ms, ru, rfl, b5 _ _ nlr hlr, dpAll_imm k5 hrv (immAll_map RRow.imm ru), ⟨⟨kvs, hmd5, hmtab5⟩, ⟨skv, hsd5, htab5⟩, gf.so, gf.nd, gf.ok⟩, gf.ra, gf.rn, gf.rl, gf.kf, fun H6 rd nvs s6 nrd hrd hpr => ?_⟩
    refine ⟨_, rfl, x, C, dx, _, rfl, s6 _ _ hx5, gc.c, gc.rule, by show 3 < 1000; decide, ?_⟩
    obtain ⟨H7, e7⟩ : ∃ H7, H7 = upd H6 x (.ins C dx (putF "rule_table" (.ref rd) (g3 (.int roof) (.ref sd) (.ref md)))) := ⟨_, rfl⟩
    rw [← e7]
    have hx7 : H7 x = some (.ins C dx (g4 (.int roof) (.ref sd) (.ref md) (.ref rd))) := by rw [e7, upd_same, pf4]
    have b67 : But x H6 H7 := e7 ▸ But.upd (But.refl x H6)
    have k67 : KeepT H6 H7 := e7 ▸ KeepT.at_ (s6 _ _ hx5) ins_no
    have b7 : But x H H7 := (b5.trans (But.of s6)).trans b67
    have k7 : KeepT H H7 := (k5.trans (KeepT.of s6)).trans k67
    have nrx : rd ≠ x := fun z => by
      rw [z, hx5] at nrd
      cases nrd
    have nrm : rd ≠ md := fun z => by
      rw [z, hmd5] at nrd
      cases nrd
    have hrd7 := b67 _ _ nrx hrd
    have hpr7 := hpr.keep k67
    have hmd7 := b67 _ _ nmx (s6 _ _ hmd5)
    have hmtab7 := hmtab5.keep ((KeepT.of s6).trans k67) mi
    have hsd7 := b67 _ _ nsx (s6 _ _ hsd5)
    have htab7 := htab5.keep ((KeepT.of s6).trans k67) si
    -- what is kept
    refine ⟨md, .dK kvs, hmd7, trivial, fun od => ?_⟩
    have nxm : x ≠ md := Ne.symm nmx
    have k8 : KeepT H7 (upd H7 md (.frz od (.dK kvs))) := KeepT.at_ hmd7 dK_no
    have hx8 : (upd H7 md (.frz od (.dK kvs))) x = some (.ins C dx (g4 (.int roof) (.ref sd) (.ref md) (.ref rd))) := by rw [upd_ne nxm]; exact hx7
    have hrd8 : (upd H7 md (.frz od (.dK kvs))) rd = some (dnO P w rd nvs) := by rw [upd_ne nrm]; exact hrd7
    have hfz8 : (upd H7 md (.frz od (.dK kvs))) md = some (.frz od (.dK kvs)) := upd_same
    refine ⟨_, rfl, x, C, dx, _, .ref md, rfl, hx8, gc.c, gc.making, lk4 _ _ _ _, md, od, rfl, .inl ⟨kvs, hfz8, fun D nD => ?_⟩⟩
    have lk : kvs.length = ms.length := by
      have := hmtab7.len
      rw [List.length_map] at this
      exact this
    have h8 := gf.m8
    refine dc_it walk_keys (fun i Y => Same (upd H7 md (.frz od (.dK kvs))) Y ∧ ∃ kk, Y D = some (.dK kk) ∧ kk.length ≤ i ∧ ∀ m ∈ ms.take i, ∃ l ys, valV kk (kS m.nm) = some (.ref l) ∧ H l = none ∧ l ≠ D ∧ Y l = some (.lst (ys.map V.str)) ∧ ys.Perm (gotTx ((keptNames m.nm ru).map SX.S)) ∧ sortedS ys = true)
      ⟨same_upd nD, [], upd_same, Nat.le_refl _, fun m hm => nomatch hm⟩ (fun i Y _ h => h.1 _ _ hfz8) ?_ ?_
    · rintro i v Y0 Y hi ⟨sY, kk, hD, hkl, hall⟩ ⟨rfl, k, v', hk, rfl⟩
      obtain ⟨m, hm, rfl⟩ : ∃ m, ms[i]? = some m ∧ k = kS m.nm := tab_at hmtab7 hk
      have hmm := List.mem_of_getElem? hm
      have few := gf.ko m hmm
      refine ⟨rfl, yesT ?_⟩
      refine ⟨_, rfl, _, rfl, _, rfl, x, C, dx, _, .ref rd, rfl, sY _ _ hx8, gc.c, gc.rule, lk4b _ _ _ _, m.nm, rd, nvs, ru, rfl, sY _ _ hrd8, (hpr7.keep k8).keep (KeepT.of sY), gf.rn, gf.rl, fun r' hr' => ?_, by omega, fun Y2 l ys s2' n2 hl2 hys hso => ?_⟩
      · have h' := gf.ra r' hr'
        obtain ⟨o', _, h2, _⟩ := op_of h'.op
        rw [h'.ar, h2]
        exact op_n3 o'
      have hD2 := s2' _ _ hD
      have nlD : l ≠ D := fun z => by
        rw [z, hD] at n2
        cases n2
      have nlH : H l = none := by
        cases hz : H l with
        | none => rfl
        | some o =>
          have nlx : l ≠ x := fun z => by
            rw [z, sY _ _ hx8] at n2
            cases n2
          have h7 := b7 _ _ nlx hz
          by_cases hlm7 : l = md
          · rw [hlm7, sY _ _ hfz8] at n2
            cases n2
          · have h8 : (upd H7 md (.frz od (.dK kvs))) l = some o := by
              rw [upd_ne hlm7]
              exact h7
            rw [sY _ _ h8] at n2
            cases n2
      refine ⟨kk, kS m.nm, rfl, hD2, small1000 (by omega), Same.at_ (sY.trans s2') nD, _, upd_same, ?_, fun m' hm' => ?_⟩
      · have := length_putK kk (kS m.nm) (.ref l)
        omega
      · rw [List.take_add_one, hm] at hm'
        rw [valV_put]
        rcases List.mem_append.mp hm' with hm' | hm'
        · obtain ⟨l', ys', h1, h0, h2, h3, h4, h5⟩ := hall m' hm'
          have nn : m'.nm ≠ m.nm := fun z => new_name (f := MRow.nm) gf.nd hm (z ▸ List.mem_map_of_mem hm')
          refine ⟨l', ys', ?_, h0, h2, by rw [upd_ne h2]; exact s2' _ _ h3, h4, h5⟩
          rw [if_neg (fun z => nn (kS_inj z))]
          exact h1
        · have : m' = m := by simpa using hm'
          subst this
          exact ⟨l, ys, if_pos rfl, nlH, nlD, by rw [upd_ne nlD]; exact hl2, hys, hso⟩
    · rintro Y ⟨sY, kk, hD, hkl, hall⟩
      rw [lk, List.take_length] at hall
      refine ⟨sY _ _ hfz8, ?_⟩
      have sZ : Same H7 (upd Y md (.dK kvs)) := fun b o hb => by
        by_cases z : b = md
        · rw [z, hmd7] at hb
          rw [z, upd_same]
          exact hb
        · rw [upd_ne z]
          exact sY b o (by rw [upd_ne z]; exact hb)
      have nDm : D ≠ md := fun z => by
        rw [z, hfz8] at nD
        cases nD
      have ktZ : KTab H (upd Y md (.dK kvs)) D ms ru := ⟨kk, by rw [upd_ne nDm]; exact hD, fun m hm => by
        obtain ⟨l, ys, h1, h0, h2, h3, h4, h5⟩ := hall m hm
        refine ⟨l, ys, h1, h0, ?_, h4, h5⟩
        rw [upd_ne (fun z => by rw [z, sY _ _ hfz8] at h3; cases h3)]
        exact h3⟩
      obtain ⟨Z, eZ⟩ : ∃ Z, Z = upd Y md (.dK kvs) := ⟨_, rfl⟩
      rw [← eZ] at sZ ktZ ⊢
      refine ⟨_, rfl, x, C, dx, _, rfl, sZ _ _ hx7, gc.c, gc.kept, by show 4 < 1000; decide, ?_⟩
      obtain ⟨H9, e9⟩ : ∃ H9, H9 = upd Z x (.ins C dx (putF "kept_table" (.ref D) (g4 (.int roof) (.ref sd) (.ref md) (.ref rd)))) := ⟨_, rfl⟩
      rw [← e9]
      have hx9 : H9 x = some (.ins C dx (g5 (.int roof) (.ref sd) (.ref md) (.ref rd) (.ref D))) := by rw [e9, upd_same, pf5]
      have b9' : But x Z H9 := e9 ▸ But.upd (But.refl x Z)
      have k9' : KeepT Z H9 := e9 ▸ KeepT.at_ (sZ _ _ hx7) ins_no
      have b9 : But x H H9 := (b7.trans (But.of sZ)).trans b9'
      have k9 : KeepT H H9 := (k7.trans (KeepT.of sZ)).trans k9'
      -- the rows, risen
      refine ⟨_, rfl, _, rfl, ls, sv, _, rfl, SqL.of (b9 _ _ nls hls), dpAll_imm k9 hsv (immAll_map SRow.imm rs), rows_sorts gf.so, fun ys1 p1 _ n1 => ?_⟩
      have sA := same_upd (o := .lst ys1) n1
      refine ⟨_, rfl, lm, mv, _, rfl, SqL.of (sA _ _ (b9 _ _ nlm hlm)), dpAll_same sA (dpAll_imm k9 hmv (immAll_map MRow.imm ms)), rows_maks gf.nd, fun ys2 p2 _ n2 => ?_⟩
      have sB := sA.trans (same_upd (o := .lst ys2) n2)
      refine ⟨_, rfl, lr, rv, _, rfl, SqL.of (sB _ _ (b9 _ _ nlr hlr)), dpAll_same sB (dpAll_imm k9 hrv (immAll_map RRow.imm ru)), rows_rules gf.rn, fun ys3 p3 _ n3 => ?_⟩
      have sC := sB.trans (same_upd (o := .lst ys3) n3)
      refine ⟨by show 4 ≤ sizeLine; decide, fun rt nrt => ?_⟩
      have sD := sC.trans (same_upd (o := .tup [.int roof, .ref p1, .ref p2, .ref p3]) nrt)
      refine ⟨_, rfl, x, C, dx, _, rfl, sD _ _ hx9, gc.c, gc.risen, by show 5 < 1000; decide, ?_⟩
      have bZW := (b9'.trans (But.of sD)).trans (But.upd (o := .ins C dx (putF "risen" (.ref rt) (g5 (.int roof) (.ref sd) (.ref md) (.ref rd) (.ref D)))) (But.refl x _))
      have kZW := (k9'.trans (KeepT.of sD)).trans (KeepT.at_ (o := .ins C dx (putF "risen" (.ref rt) (g5 (.int roof) (.ref sd) (.ref md) (.ref rd) (.ref D)))) (sD _ _ hx9) ins_no)
      have nDx : D ≠ x := fun z => by
        rw [z, hx8] at nD
        cases nD
      obtain ⟨kk', hkk, hkt⟩ := ktZ
      refine q _ ((b7.trans (But.of sZ)).trans bZW) ⟨dx, sd, md, rd, D, rt, by rw [upd_same, pf6], ⟨skv, bZW _ _ nsx (sZ _ _ hsd7), htab7.keep ((KeepT.of sZ).trans kZW) si⟩, ⟨kvs, bZW _ _ nmx (sZ _ _ hmd7), hmtab7.keep ((KeepT.of sZ).trans kZW) mi⟩, ⟨nvs, bZW _ _ nrx (sZ _ _ hrd7), hpr7.keep ((KeepT.of sZ).trans kZW)⟩, ⟨kk', bZW _ _ nDx hkk, fun m hm => ?_⟩⟩
      obtain ⟨l, ys, h1, h0, h3, h4, h5⟩ := hkt m hm
      exact ⟨l, ys, h1, h0, bZW _ _ (fun z => by rw [z, sZ _ _ hx7] at h3; cases h3) h3, h4, h5⟩
end
/-! ### what is drawn is a grammar -/
theorem kept_in {m w : List Nat} {ru : List RRow} (h : w ∈ keptNames m ru) : ∃ r ∈ ru, r.ma = m ∧ ∃ o ∈ rOds r, w ∈ odName o := by
  unfold keptNames odsOf at h
  obtain ⟨o, ho, hw⟩ := List.mem_flatMap.mp h
  obtain ⟨r, hr, ho⟩ := List.mem_flatMap.mp ho
  obtain ⟨hr, e⟩ := List.mem_filter.mp hr
  exact ⟨r, hr, of_decide_eq_true e, o, ho, hw⟩
structure RuFit (rs : List SRow) (ms : List MRow) (ru : List RRow) (roof : Nat) : Prop where
  ra : ∀ r ∈ ru, RuleOk rs ms roof r
  rn : RuNd ru
  rl : ru.length ≤ 30 * ms.length
  ks : ∀ m ∈ ms, ∃ ks : List (List Nat), ks.length ≤ 2 ∧ ∀ r ∈ ru, r.ma = m.nm → ∀ o ∈ rOds r, ∀ w ∈ odName o, w ∈ ks
theorem ru_fit {rs : List SRow} {roof : Nat} : ∀ {ms : List MRow} {ru : List RRow}, RuAll rs roof ms ru → (ms.map MRow.nm).Nodup → RuFit rs ms ru roof := by
  intro ms ru h
  induction h with
  | nil =>
    intro _
    refine ⟨?_, List.Pairwise.nil, Nat.le_refl _, ?_⟩
    · intro r h
      cases h
    · intro m h
      cases h
  | @snoc ms ru pr mr ks h hok ih =>
    intro hn
    rw [List.map_append] at hn
    obtain ⟨n1, _, n3⟩ := List.nodup_append.mp hn
    have F := ih n1
    have old : ∀ m ∈ ms, m.nm ≠ mr.nm := fun m hm => n3 _ (List.mem_map_of_mem hm) _ (List.mem_map_of_mem (List.mem_singleton.mpr rfl))
    have rold : ∀ r ∈ ru, r.ma ≠ mr.nm := fun r hr => by
      obtain ⟨m, hm, e, _⟩ := (F.ra r hr).ex
      rw [e]
      exact old m hm
    refine ⟨fun r hr => ?_, ?_, ?_, fun m hm => ?_⟩
    · rcases List.mem_append.mp hr with hr | hr
      · obtain ⟨⟨m, hm, e⟩, h2, h3⟩ := F.ra r hr
        exact ⟨⟨m, List.mem_append_left _ hm, e⟩, h2, h3⟩
      · exact ⟨⟨mr, List.mem_append_right _ (List.mem_singleton.mpr rfl), hok.ma r hr, hok.tg r hr, hok.os r hr⟩, hok.op r hr, hok.ar r hr⟩
    · refine List.pairwise_append.mpr ⟨F.rn, ?_, fun r hr r' hr' e => absurd (e.trans (hok.ma r' hr')) (rold r hr)⟩
      have hp : pr.Pairwise fun r r' => r.tg ≠ r'.tg := List.pairwise_map.mp hok.nd
      exact hp.imp (fun {a b} h (_ : a.ma = b.ma) => h)
    · rw [List.length_append, List.length_append, List.length_singleton]
      have := F.rl
      have := hok.le
      omega
    · rcases List.mem_append.mp hm with hm | hm
      · obtain ⟨k0, h2, hk⟩ := F.ks m hm
        refine ⟨k0, h2, fun r hr e => ?_⟩
        rcases List.mem_append.mp hr with hr | hr
        · exact hk r hr e
        · exact absurd (e.symm.trans (hok.ma r hr)) (old m hm)
      · obtain rfl := List.mem_singleton.mp hm
        refine ⟨ks, hok.k2, fun r hr e o ho w hw => ?_⟩
        rcases List.mem_append.mp hr with hr | hr
        · exact absurd e (rold r hr)
        · rcases List.mem_cons.mp ho with rfl | ho
          · exact hok.kt r hr w hw
          · exact hok.ko r hr o ho w hw
theorem gfit {rs : List SRow} {ms : List MRow} {ru : List RRow} {roof : Nat} (g : GramOk rs ms ru roof) : GFit rs ms ru roof := by
  have F := ru_fit g.ru g.nd
  have m8 := g.m8
  have rl := F.rl
  have few : ∀ m ∈ ms, ∃ ks : List (List Nat), ks.length ≤ 2 ∧ ∀ w ∈ keptNames m.nm ru, w ∈ ks := fun m hm => by
    obtain ⟨ks, h2, hk⟩ := F.ks m hm
    refine ⟨ks, h2, fun w hw => ?_⟩
    obtain ⟨r, hr, e, o, ho, hw⟩ := kept_in hw
    exact hk r hr e o ho w hw
  refine ⟨g.so, g.nd, g.ok, g.m8, F.ra, F.rn, by omega, fun r hr => ?_, fun m hm => ?_, g.rf⟩
  · obtain ⟨m, hm, e, _⟩ := (F.ra r hr).ex
    rw [e]
    exact few m hm
  · obtain ⟨ks, h2, hk⟩ := few m hm
    refine Nat.le_trans (nodup_leA (f := ks.map SX.S) (gotTx_nodup _) fun u hu => ?_) (by rw [List.length_map]; exact h2)
    obtain ⟨w, hw, rfl⟩ := List.mem_map.mp (gotTx_mem.mp hu)
    exact List.mem_map_of_mem (hk w hw)
abbrev s__law_made : Stmt := top 69
abbrev N__law_made : List Str := ["_law_g"]
abbrev P__law_made : List Str := ["_law_g"]
theorem sc__law_made : FnScope N__law_made P__law_made (defScope s__law_made) := ⟨rfl, rfl, rfl, by decide +kernel, rfl, by decide +kernel, by decide +kernel⟩
/-- the class and how it makes -/
structure GMk (P : Program) (w : World) (K : PySem.W.Frag) (mg : Str → Option Value) (base : Heap) (C : Addr) : Prop where
  ex : ∃ (f : Addr) (fd : FuncData), FnOk P w K mg base CX0 6 f fd P_GI (spGI K P w C) ∧ Mk K C f ∧ mg "Grammar" = some (.ref C) ∧ KBn K fd P_GI 4 ["cap"] (fun us ws => us ++ ws) (fun vs zs => vs ++ zs)
theorem gmk_of {P : Program} {w : World} {K : PySem.W.Frag} {mg : Str → Option Value} {base : Heap} {C f : Addr} {fd : FuncData} (F : FunD K "__init__" "Grammar.__init__" (defArgs s_GI) (defBody s_GI) (defScope s_GI) [] [("cap", .int 0)] f fd) (ok : FnOk P w K mg base CX0 6 f fd P_GI (spGI K P w C)) (M : Mk K C f) (hm : mg "Grammar" = some (.ref C)) : GMk P w K mg base C := by
  refine ⟨f, fd, ok, M, hm, ?_⟩
  exact kbindsN (ps := P_GI) F 4 ["cap"] (fun us ws => us ++ ws) (fun h2 h3 => Vals.append h2 h3) (fun kV doc pm an cdv ct us ws hl hw => match us, ws, hl, hw with
    | [_, _, _, _], [_], _, _ => rfl)
def spMade (K : PySem.W.Frag) (P : Program) (w : World) (C : Addr) : Sp := fun vs H Q _ => ∃ (a gd : Addr) (rs : List SRow) (ms : List MRow) (ru : List RRow) (roof : Nat), vs = [.ref gd] ∧ GramIn K H a gd rs ms ru roof ∧ GFit rs ms ru roof ∧
  ∀ (H' : Hp) (x : Addr), Same H H' → H x = none → GrOk K P w C H H' x rs ms ru roof → Q (.ref x) H'
section
variable {P : Program} {w : World} {K : PySem.W.Frag} {mg : Str → Option Value} {base : Heap} {C : Addr}
theorem ok_made (T : Gb mg) (GK : GMk P w K mg base C) (D : Dd K mg "_law_made" s__law_made P__law_made) : C8.Cal P w K mg base 8 "_law_made" (spMade K P w C) [] := by
  obtain ⟨fG, fdG, FG, GM, gmg, gkb⟩ := GK.ex
  refine D.cal sc__law_made (fun vs H Q E h => ?_) (fun f cdv A outer s H vs Q E hr h => ?_)
  · obtain ⟨a, gd, rs, ms, ru, roof, rfl, _⟩ := h
    rfl
  · obtain ⟨a, gd, rs, ms, ru, roof, rfl, gi, gf, q⟩ := h
    obtain ⟨ls, lm, lr, of, gkv, gs, _⟩ := gi.ex
    obtain ⟨sv, hls, hsv⟩ := gs.hls
    obtain ⟨mv, hlm, hmv⟩ := gs.hlm
    obtain ⟨rv, hlr, hrv⟩ := gs.hlr
    have get : ∀ {Y : Hp} {k : Str} {v : V}, Same H Y → valV gkv (Sum.inr k) = some v → DGet Y gd (.str k) (some v) := fun {Y k v} sY e => by
      have h := DGet.k (k := Sum.inr k) (sY _ _ gs.hgd)
      rw [e] at h
      exact h
    refine ⟨_, (pss_one (ps_ret (pe_makeK GM FG (hr.mono (by decide)) (by rfl) gmg gkb pass0 (pa_cons (pe_callTy call_list_of (by rfl) T.list (by decide +kernel) (pa_cons (pe_dget (hu_of hr) (pv 0) pe_str (fun _ _ => rfl)) pa_nil)) (pa_cons (pe_callTy call_list_of (by rfl) T.list (by decide +kernel) (pa_cons (pe_dget (hu_of hr) (pv 0) pe_str (fun _ _ => rfl)) pa_nil)) (pa_cons (pe_callTy call_list_of (by rfl) T.list (by decide +kernel) (pa_cons (pe_dget (hu_of hr) (pv 0) pe_str (fun _ _ => rfl)) pa_nil)) pa_nil))) (pk_cons (pe_dget (hu_of hr) (pv 0) pe_str (fun _ _ => rfl)) pk_nil)))), ?_⟩
    refine ⟨_, rfl, gd, .ref ls, rfl, get (Same.refl H) gs.so, ?_⟩
    refine ⟨ls, sv, rfl, .inl (SqL.of hls), fun p1 n1 => ?_⟩
    have s1 := same_upd (o := .lst sv) n1
    refine ⟨_, rfl, gd, .ref lm, rfl, get s1 gs.mak, ?_⟩
    refine ⟨lm, mv, rfl, .inl (SqL.of (s1 _ _ hlm)), fun p2 n2 => ?_⟩
    have s2 := s1.trans (same_upd (o := .lst mv) n2)
    refine ⟨_, rfl, gd, .ref lr, rfl, get s2 gs.rl, ?_⟩
    refine ⟨lr, rv, rfl, .inl (SqL.of (s2 _ _ hlr)), fun p3 n3 => ?_⟩
    have s3 := s2.trans (same_upd (o := .lst rv) n3)
    refine ⟨_, rfl, gd, .int roof, rfl, get s3 gs.cap, ?_⟩
    refine ⟨rfl, rfl, fun x dx nx ndx ndd => ?_⟩
    have nx2 : (upd (upd (upd (upd H p1 (.lst sv)) p2 (.lst mv)) p3 (.lst rv)) dx (.own x)) x = none := by
      rw [upd_ne (Ne.symm ndd)]
      exact nx
    have s5 := (same_upd (o := .own x) ndx).trans (same_upd (o := .ins C dx []) nx2)
    have sU := s3.trans s5
    have h1 := s5 _ _ (same_upd (o := .lst rv) n3 _ _ (same_upd (o := .lst mv) n2 _ _ (upd_same (H := H) (a := p1) (o := .lst sv))))
    have h2 := s5 _ _ (same_upd (o := .lst rv) n3 _ _ (upd_same (H := upd H p1 (.lst sv)) (a := p2) (o := .lst mv)))
    have h3 := s5 _ _ (upd_same (H := upd (upd H p1 (.lst sv)) p2 (.lst mv)) (a := p3) (o := .lst rv))
    have hx0 := s3.free nx
    refine ⟨x, dx, p1, p2, p3, roof, sv, mv, rv, rs, ms, ru, rfl, upd_same, h1, h2, h3, dpAll_same sU hsv, dpAll_same sU hmv, dpAll_same sU hrv, gf, fun H' bt gr => ⟨rfl, q _ x (fun b o hb => bt b o (ne_of_none hb hx0) (sU b o hb)) hx0 (gr.less sU)⟩⟩
end
/-! ### the eighteen errors: what __init__ leaves -/
def spOneD (K : PySem.W.Frag) (C : Addr) (f : Str) (n : Nat) : Sp := fun vs H Q _ => ∃ (e : Addr) (x : V) (d : PyData), vs = [.ref e, x] ∧ Dp K H x d ∧ Sm n d ∧ H e = some (exo e C none) ∧
  ∀ (H' : Hp) (dd : Addr) (y : V), H dd = none → dd ≠ e → H' e = some (exo e C (some dd)) → H' dd = some (exd dd [(f, y)]) → But e H H' → Dp K (Nw H H') y d → Q .non H'
def spTwoD (K : PySem.W.Frag) (C : Addr) (f1 f2 : Str) (n : Nat) : Sp := fun vs H Q _ => ∃ (e : Addr) (x1 x2 : V) (d1 d2 : PyData), vs = [.ref e, x1, x2] ∧ Dp K H x1 d1 ∧ Sm n d1 ∧ Dp K H x2 d2 ∧ Sm n d2 ∧ H e = some (exo e C none) ∧
  ∀ (H' : Hp) (dd : Addr) (y1 y2 : V), H dd = none → dd ≠ e → H' e = some (exo e C (some dd)) → H' dd = some (exd dd [(f2, y2), (f1, y1)]) → But e H H' → Dp K (Nw H H') y1 d1 → Dp K (Nw H H') y2 d2 → Q .non H'
abbrev s_NoName : Stmt := inClass (top 12) 0
abbrev N_NoName : List Str := ["self", "name"]
theorem sc_NoName : FnScope N_NoName N_NoName (defScope s_NoName) := ⟨rfl, rfl, rfl, by decide +kernel, rfl, by decide +kernel, by decide +kernel⟩
section
variable {K : PySem.W.Frag} {H H' : Hp} {e C : Addr}
theorem exo_lst {od : Option Addr} {xs : List V} : exo e C od ≠ .lst xs := fun z => by
  have z' : HO.ext _ = HO.lst xs := z
  cases z'
theorem exo_tup' {od : Option Addr} {xs : List V} : exo e C od ≠ .tup xs := fun z => by
  have z' : HO.ext _ = HO.tup xs := z
  cases z'
theorem exo_frz' {od : Option Addr} {o : Obj} {v : HO} : exo e C od ≠ .frz o v := fun z => by
  have z' : HO.ext _ = HO.frz o v := z
  cases z'
theorem off_exo {od : Option Addr} {a : Addr} {o : HO} (he : H e = some (exo e C od)) (h : H a = some o) (n : exo e C od ≠ o) : a ≠ e := fun z => by
  rw [z, he] at h
  exact n (Option.some.inj h)
mutual
theorem dp_but {od : Option Addr} (he : H e = some (exo e C od)) (s : But e H H') : ∀ {v : V} {d : PyData}, Dp K H v d → Dp K H' v d
  | _, _, .non => .non
  | _, _, .bl b => .bl b
  | _, _, .int i => .int i
  | _, _, .str x => .str x
  | _, _, .lst h a => .lst (by
    rcases h with (h | ⟨o, h⟩) | h
    · exact .inl (.inl (s _ _ (off_exo he h exo_lst) h))
    · exact .inl (.inr ⟨o, s _ _ (off_exo he h exo_frz') h⟩)
    · exact .inr h) (dpAll_but he s a)
  | _, _, .tup h a => .tup (by
    rcases h with (h | ⟨o, h⟩) | h
    · exact .inl (.inl (s _ _ (off_exo he h exo_tup') h))
    · exact .inl (.inr ⟨o, s _ _ (off_exo he h exo_frz') h⟩)
    · exact .inr h) (dpAll_but he s a)
theorem dpAll_but {od : Option Addr} (he : H e = some (exo e C od)) (s : But e H H') : ∀ {vs : List V} {ds : List PyData}, DpAll K H vs ds → DpAll K H' vs ds
  | _, _, .nil => .nil
  | _, _, .cons h a => .cons (dp_but he s h) (dpAll_but he s a)
end
end
section
variable {K : PySem.W.Frag} {C : Addr} {B : String} {n : Nat}
theorem one_left {f : Str} {m : Str} {Q : VK} {H : Hp} {e : Addr} {x : V} {d : PyData} (O : OxC K C B) (h1 : PySem.W.findIn K (.ref C) f = some none) (hx : Dp K H x d) (hs : Sm n d) (he : H e = some (exo e C none))
    (q : ∀ (H' : Hp) (dd : Addr) (y : V), H dd = none → dd ≠ e → H' e = some (exo e C (some dd)) → H' dd = some (exd dd [(f, y)]) → But e H H' → Dp K (Nw H H') y d → Q .non H') :
    tSeq (tDrop (tBI K B (tCons (tVar 0) (tCons (tC (.str m)) tNil)))) (tOxs K f (tVar 0) (tCall (spOwnD K n) [] E0 (tCons (tVar 1) tNil))) { nx := fun _ H' => Q .non H', rt := Q } [some (.ref e), some x] H := by
  refine ⟨_, rfl, e, C, _, rfl, by show 1 ≤ 1000; decide, O, he, ?_⟩
  refine ⟨_, rfl, x, d, rfl, hx, hs, fun H1 y s1 hy => ?_⟩
  refine ⟨_, rfl, e, C, B, rfl, O, h1, .inl ⟨s1 _ _ he, fun dd nd nde => ?_⟩⟩
  refine q _ dd y (s1.free nd) nde upd_same (by rw [upd_ne nde, upd_same]) (fun z o nz hz => ?_) (dp_same (fun z o hz => ?_) hy)
  · rw [upd_ne nz, upd_ne (ne_of_none (s1 _ _ hz) nd)]
    exact s1 _ _ hz
  · obtain ⟨e1, e2⟩ := Nw.get hz
    exact Nw.mk e1 (by rw [upd_ne (fun z2 => by rw [z2, he] at e1; cases e1), upd_ne (ne_of_none e2 nd)]; exact e2)
theorem two_left {f1 f2 : Str} {m : Str} {Q : VK} {H : Hp} {e : Addr} {x1 x2 : V} {d1 d2 : PyData} (O : OxC K C B) (h1 : PySem.W.findIn K (.ref C) f1 = some none) (h2 : PySem.W.findIn K (.ref C) f2 = some none) (hx1 : Dp K H x1 d1) (hs1 : Sm n d1) (hx2 : Dp K H x2 d2) (hs2 : Sm n d2) (he : H e = some (exo e C none))
    (q : ∀ (H' : Hp) (dd : Addr) (y1 y2 : V), H dd = none → dd ≠ e → H' e = some (exo e C (some dd)) → H' dd = some (exd dd [(f2, y2), (f1, y1)]) → But e H H' → Dp K (Nw H H') y1 d1 → Dp K (Nw H H') y2 d2 → Q .non H') :
    tSeq (tDrop (tBI K B (tCons (tVar 0) (tCons (tC (.str m)) tNil)))) (tSeq (tOxs K f1 (tVar 0) (tCall (spOwnD K n) [] E0 (tCons (tVar 1) tNil))) (tOxs K f2 (tVar 0) (tCall (spOwnD K n) [] E0 (tCons (tVar 2) tNil)))) { nx := fun _ H' => Q .non H', rt := Q } [some (.ref e), some x1, some x2] H := by
  refine ⟨_, rfl, e, C, _, rfl, by show 1 ≤ 1000; decide, O, he, ?_⟩
  refine ⟨_, rfl, x1, d1, rfl, hx1, hs1, fun H1 y1 s1 hy1 => ?_⟩
  refine ⟨_, rfl, e, C, B, rfl, O, h1, .inl ⟨s1 _ _ he, fun dd nd nde => ?_⟩⟩
  have b1 : But e H (upd (upd H1 dd (exd dd [(f1, y1)])) e (exo e C (some dd))) := fun z o nz hz => by
    rw [upd_ne nz, upd_ne (ne_of_none (s1 _ _ hz) nd)]
    exact s1 _ _ hz
  refine ⟨_, rfl, x2, d2, rfl, ?_, hs2, fun H2 y2 s2 hy2 => ?_⟩
  · exact dp_but he b1 hx2
  have e2 : H2 e = some (exo e C (some dd)) := s2 _ _ upd_same
  have g2 : H2 dd = some (exd dd [(f1, y1)]) := s2 _ _ (by rw [upd_ne nde, upd_same])
  refine ⟨_, rfl, e, C, B, rfl, O, h2, .inr ⟨dd, _, e2, g2, by show 1 ≤ 900; decide, ?_⟩⟩
  refine q _ dd y1 y2 (s1.free nd) nde (by rw [upd_ne nde.symm]; exact e2) upd_same (fun z o nz hz => ?_) (dp_same (fun z o hz => ?_) hy1) (dp_same (fun z o hz => ?_) hy2)
  · rw [upd_ne (ne_of_none (s1 _ _ hz) nd)]
    exact s2 _ _ (b1 _ _ nz hz)
  · obtain ⟨w1, w2⟩ := Nw.get hz
    have nze : z ≠ e := fun z2 => by
      rw [z2, he] at w1
      cases w1
    have nzd : z ≠ dd := ne_of_none w2 nd
    exact Nw.mk w1 (by rw [upd_ne nzd]; exact s2 _ _ (by rw [upd_ne nze, upd_ne nzd]; exact w2))
  · obtain ⟨w1, w2⟩ := Nw.get hz
    have nze : z ≠ e := fun z2 => by
      rw [z2, upd_same] at w1
      cases w1
    have nzd : z ≠ dd := fun z2 => by
      rw [z2, upd_ne nde, upd_same] at w1
      cases w1
    rw [upd_ne nze, upd_ne nzd] at w1
    exact Nw.mk (s1.free w1) (by rw [upd_ne nzd]; exact w2)
end
section
variable {P : Program} {w : World} {K : PySem.W.Frag} {mg : Str → Option Value} {base : Heap} {C : Addr}
theorem ok_NoName {n : Nat} {f : Addr} {fd : FuncData} (cown_copy : C8.Cal P w K mg base (n + 1) "own_copy" (spOwnD K n) []) (F : L2.Fun K "__init__" "NoName.__init__" s_NoName f fd) (O : OxC K C "KeyError") (b : BInit K "KeyError") (mV : mg "KeyError" = none) (h1 : PySem.W.findIn K (.ref C) "name" = some none) :
    FnOk P w K mg base CX0 (n + 2) f fd N_NoName (spOneD K C "name" n) := by
  refine F.ok sc_NoName (fun vs H Q E h => ?_) (fun cdv A outer s H vs Q E hr h => ?_)
  · obtain ⟨e, x, d, rfl, _⟩ := h
    rfl
  · obtain ⟨e, x, d, rfl, hx, hs, he, q⟩ := h
    refine ⟨_, pss_cons (ps_expr (pe_binit b (by rfl) mV (pa_cons (pv 0) (pa_cons pe_str pa_nil)))) (pss_one (ps_oxs (pv 0) (C8.pe_c cown_copy hr (by omega) (by rfl) (pa_cons (pv 1) pa_nil)))), ?_⟩
    exact one_left O h1 hx hs he q
end
/-! ### errors held as values, and what they bear -/
def SeqO (o : HO) : Prop := (∃ xs, o = .lst xs) ∨ (∃ xs, o = .tup xs) ∨ ∃ o' v, o = .frz o' v
section
variable {K : PySem.W.Frag} {H H' : Hp}
mutual
theorem dp_tr (s : ∀ a o, SeqO o → H a = some o → H' a = some o) : ∀ {v : V} {d : PyData}, Dp K H v d → Dp K H' v d
  | _, _, .non => .non
  | _, _, .bl b => .bl b
  | _, _, .int i => .int i
  | _, _, .str x => .str x
  | _, _, .lst h a => .lst (by
    rcases h with (h | ⟨o, h⟩) | h
    · exact .inl (.inl (s _ _ (.inl ⟨_, rfl⟩) h))
    · exact .inl (.inr ⟨o, s _ _ (.inr (.inr ⟨_, _, rfl⟩)) h⟩)
    · exact .inr h) (dpAll_tr s a)
  | _, _, .tup h a => .tup (by
    rcases h with (h | ⟨o, h⟩) | h
    · exact .inl (.inl (s _ _ (.inr (.inl ⟨_, rfl⟩)) h))
    · exact .inl (.inr ⟨o, s _ _ (.inr (.inr ⟨_, _, rfl⟩)) h⟩)
    · exact .inr h) (dpAll_tr s a)
theorem dpAll_tr (s : ∀ a o, SeqO o → H a = some o → H' a = some o) : ∀ {vs : List V} {ds : List PyData}, DpAll K H vs ds → DpAll K H' vs ds
  | _, _, .nil => .nil
  | _, _, .cons h a => .cons (dp_tr s h) (dpAll_tr s a)
end
theorem exd_seq {d : Addr} {fs : List (Str × V)} : ¬ SeqO (exd d fs) := by
  rintro (⟨xs, z⟩ | ⟨xs, z⟩ | ⟨o', v, z⟩)
  · have z' : HO.ext _ = HO.lst xs := z
    cases z'
  · have z' : HO.ext _ = HO.tup xs := z
    cases z'
  · have z' : HO.ext _ = HO.frz o' v := z
    cases z'
theorem exo_seq {e C : Addr} {od : Option Addr} : ¬ SeqO (exo e C od) := by
  rintro (⟨xs, z⟩ | ⟨xs, z⟩ | ⟨o', v, z⟩)
  · exact exo_lst z
  · exact exo_tup' z
  · exact exo_frz' z
/-- an error of the class at C, its fields -/
def ErAt (H : Hp) (e C : Addr) (fs : List (Str × V)) : Prop := ∃ d, H e = some (exv e C d) ∧ H d = some (.xd fs)
theorem ErAt.same {e C : Addr} {fs : List (Str × V)} (h : ErAt H e C fs) (s : Same H H') : ErAt H' e C fs := by
  obtain ⟨d, h1, h2⟩ := h
  exact ⟨d, s _ _ h1, s _ _ h2⟩
/-- behind the making -/
theorem made_same {e C dd : Addr} {fs gs : List (Str × V)} (ne : H e = none) (nd : (upd H e (exo e C none)) dd = none) (b : But e (upd H e (exo e C none)) H') : Same H (upd (upd H' e (exv e C dd)) dd (.xd fs)) := fun z o hz => by
  have nze : z ≠ e := ne_of_none hz ne
  have hz2 : (upd H e (exo e C none)) z = some o := by
    rw [upd_ne nze]
    exact hz
  rw [upd_ne (ne_of_none hz2 nd), upd_ne nze]
  exact b _ _ nze hz2
theorem made_dp {e C dd : Addr} {fs gs : List (Str × V)} {y : V} {d : PyData} (he : H' e = some (exo e C (some dd))) (hd : H' dd = some (exd dd gs)) (h : Dp K (Nw (upd H e (exo e C none)) H') y d) : Dp K (upd (upd H' e (exv e C dd)) dd (.xd fs)) y d :=
  dp_tr (fun a o so ha => by
    obtain ⟨_, h2⟩ := Nw.get ha
    have n1 : a ≠ e := fun z => by
      rw [z, he] at h2
      cases h2
      exact exo_seq so
    have n2 : a ≠ dd := fun z => by
      rw [z, hd] at h2
      cases h2
      exact exd_seq so
    rw [upd_ne n2, upd_ne n1]
    exact h2) h
theorem mkv_one {C : Addr} {f : Str} {n : Nat} {x : V} {d : PyData} {Q : VK} (hx : Dp K H x d) (hs : Sm n d) (q : ∀ (G : Hp) (e : Addr) (y : V), Same H G → ErAt G e C [(f, y)] → Dp K G y d → Q (.ref e) G) :
    ∀ e, H e = none → spOneD K C f n [.ref e, x] (upd H e (exo e C none)) (fun v H2 => v = .non ∧ ∃ (d : Addr) (fs : List (Str × V)), H2 e = some (exo e C (some d)) ∧ H2 d = some (exd d fs) ∧ Q (.ref e) (upd (upd H2 e (exv e C d)) d (.xd fs))) (fun _ _ _ => False) := by
  intro e ne
  refine ⟨e, x, d, rfl, dp_same (same_upd ne) hx, hs, upd_same, fun H' dd y nd nde he hd b hy => ⟨rfl, dd, _, he, hd, ?_⟩⟩
  refine q _ e y (made_same (gs := []) ne nd b) ⟨dd, by rw [upd_ne nde.symm, upd_same], upd_same⟩ (made_dp he hd hy)
theorem mkv_two {C : Addr} {f1 f2 : Str} {n : Nat} {x1 x2 : V} {d1 d2 : PyData} {Q : VK} (hx1 : Dp K H x1 d1) (hs1 : Sm n d1) (hx2 : Dp K H x2 d2) (hs2 : Sm n d2)
    (q : ∀ (G : Hp) (e : Addr) (y1 y2 : V), Same H G → ErAt G e C [(f2, y2), (f1, y1)] → Dp K G y1 d1 → Dp K G y2 d2 → Q (.ref e) G) :
    ∀ e, H e = none → spTwoD K C f1 f2 n [.ref e, x1, x2] (upd H e (exo e C none)) (fun v H2 => v = .non ∧ ∃ (d : Addr) (fs : List (Str × V)), H2 e = some (exo e C (some d)) ∧ H2 d = some (exd d fs) ∧ Q (.ref e) (upd (upd H2 e (exv e C d)) d (.xd fs))) (fun _ _ _ => False) := by
  intro e ne
  refine ⟨e, x1, x2, d1, d2, rfl, dp_same (same_upd ne) hx1, hs1, dp_same (same_upd ne) hx2, hs2, upd_same, fun H' dd y1 y2 nd nde he hd b hy1 hy2 => ⟨rfl, dd, _, he, hd, ?_⟩⟩
  exact q _ e y1 y2 (made_same (gs := []) ne nd b) ⟨dd, by rw [upd_ne nde.symm, upd_same], upd_same⟩ (made_dp he hd hy1) (made_dp he hd hy2)
end
/-! ### found by a name, or not -/
abbrev s_found_by : Stmt := top 50
abbrev N_found_by : List Str := ["name", "table"]
abbrev P_found_by : List Str := ["name", "table"]
theorem sc_found_by : FnScope N_found_by P_found_by (defScope s_found_by) := ⟨rfl, rfl, rfl, by decide +kernel, rfl, by decide +kernel, by decide +kernel⟩
structure OxD (K : PySem.W.Frag) (mg : Str → Option Value) (C : Addr) (B : String) (x qual : Str) (st : Stmt) (ps : List Str) : Prop where
  ex : ∃ (f : Addr) (fd : FuncData), L2.Fun K "__init__" qual st f fd ∧ Binds K fd ps [] ∧ PySem.W.findIn K (.ref C) "__init__" = some (some (.ref f)) ∧ PySem.W.typeIn K (.ref f) = some (.type "function")
  ox : OxC K C B
  mg : mg x = some (.ref C)
/-- what is wished for where nothing is called so -/
def NoNm (K : PySem.W.Frag) (C : Addr) (H : Hp) (d : PyData) (E : XK) : Prop := ∀ (H' : Hp) (dd : Addr) (y : V), Same H H' → H dd = none → H' dd = some (.xd [("name", y)]) → Dp K (Nw H H') y d → E (.ref C) (some dd) H'
def spFound (K : PySem.W.Frag) (C : Addr) (sn : Nat) : Sp := fun vs H Q E => ∃ (v : V) (t : Addr) (d : PyData) (kvs : List (Key × V)), vs = [v, .ref t] ∧ Dp K H v d ∧ Sm sn d ∧ H t = some (.dK kvs) ∧
  ((∃ z u, d = .str z ∧ valV kvs (Sum.inr z) = some u ∧ Q u H) ∨ ((∀ z, d = .str z → valV kvs (Sum.inr z) = none) ∧ NoNm K C H d E))
def isS : PyData → Bool
  | .str _ => true
  | _ => false
theorem kit_strD {K : PySem.W.Frag} {H : Hp} {v : V} {d : PyData} (h : Dp K H v d) : kitB (tyD d) "str" = some (isS d) := by
  cases h with
  | non => exact (show kitB "NoneType" "str" = some false by decide +kernel)
  | bl _ => exact (show kitB "bool" "str" = some false by decide +kernel)
  | int _ => exact (show kitB "int" "str" = some false by decide +kernel)
  | str _ => exact (show kitB "str" "str" = some true by decide +kernel)
  | lst _ _ => exact (show kitB "list" "str" = some false by decide +kernel)
  | tup _ _ => exact (show kitB "tuple" "str" = some false by decide +kernel)
section
variable {P : Program} {w : World} {K : PySem.W.Frag} {mg : Str → Option Value} {base : Heap} {C : Addr}
theorem raise_name {sn : Nat} {H : Hp} {x : V} {d : PyData} {E : XK} {R : Hp → Addr → List (Str × V) → Prop} (hx : Dp K H x d) (hs : Sm sn d) (hE : NoNm K C H d E) {a : Addr} (na : H a = none)
    (hR : ∀ H' dd y, H dd = none → dd ≠ a → H' a = some (exo a C (some dd)) → H' dd = some (exd dd [("name", y)]) → E (.ref C) (some dd) (upd (del H' a) dd (.xd [("name", y)])) → R H' dd [("name", y)]) :
    spOneD K C "name" sn [.ref a, x] (upd H a (exo a C none)) (fun v H2 => v = .non ∧ ∃ dd fs, R H2 dd fs) (fun _ _ _ => False) := by
  refine ⟨a, x, d, rfl, dp_same (same_upd na) hx, hs, upd_same, fun H' dd y nd nda ha hd2 hb hy => ⟨rfl, dd, _, hR H' dd y ?_ nda ha hd2 ?_⟩⟩
  · rw [upd_ne nda] at nd
    exact nd
  · rw [upd_ne nda] at nd
    refine hE _ dd y (fun b o e => ?_) nd upd_same (dp_tr (fun b o so e => ?_) hy)
    · have nba : b ≠ a := ne_of_none e na
      rw [upd_ne (ne_of_none e nd), del_ne nba]
      refine hb _ _ nba ?_
      rw [upd_ne nba]
      exact e
    · obtain ⟨e1, e2⟩ := Nw.get e
      have nba : b ≠ a := fun z => by
        rw [z, upd_same] at e1
        cases e1
      have nbd : b ≠ dd := fun z => by
        rw [z, hd2] at e2
        cases e2
        exact exd_seq so
      rw [upd_ne nba] at e1
      exact Nw.mk e1 (by rw [upd_ne nbd, del_ne nba]; exact e2)
theorem ok_found_by {sn : Nat} (T : Gb mg) (N : OxD K mg C "KeyError" "NoName" "NoName.__init__" s_NoName N_NoName)
    (nl : ∀ f fd, L2.Fun K "__init__" "NoName.__init__" s_NoName f fd → FnOk P w K mg base CX0 (sn + 2) f fd N_NoName (spOneD K C "name" sn)) (D : Dd K mg "found_by" s_found_by P_found_by) : CalX P w K mg base (sn + 4) "found_by" (spFound K C sn) [] := by
  obtain ⟨f, fd, F, g, b⟩ := D.ex
  obtain ⟨fN, fdN, FF, bN, iN, tN⟩ := N.ex
  have FN := nl _ _ FF
  refine ⟨f, fd, _, [], F.okX sc_found_by (fun vs H Q E h => ?_) (fun cdv A' outer s H vs Q E hr h => ?_), g, F.kp, b, .nil⟩
  · obtain ⟨v, t, d, kvs, rfl, _⟩ := h
    rfl
  · obtain ⟨v, t, d, kvs, rfl, hd, hs, ht, hq⟩ := h
    refine ⟨_, (pss_cons (ps_if (PW.pt (pw_or (pt_not (pt_val (pe_callB call_isi (by rfl) T.isinstance (by decide +kernel) (pa_cons (pv 0) (pa_cons (pe_bltn (v := .ty "str") rfl T.str (by decide +kernel) rfl) pa_nil))))) (pw_or1 (pt_cmp (pc_dnotin (hu_of hr) (pv 0) (pv 1)) (by with_unfolding_all rfl)))))
          (pss_one (ps_raise rfl (takes_of rfl rfl rfl rfl) (pmk_ox N.ox iN tN FN (hr.mono (by omega)) bN pass0 (by rfl) N.mg (pa_cons (pv 0) pa_nil))))
          pss_nil)
        (pss_one (ps_ret (pe_dget (hu_of hr) (pv 1) (pv 0) (fun _ _ => rfl))))), ?_⟩
    refine ⟨_, rfl, v, .ty "str", .type (tyD d), .type "str", _, rfl, .ty "str", dp_tyD hd, kit_ty (kit_strD hd), _, rfl, ?_⟩
    have raised : NoNm K C H d E → ∀ a, H a = none → spOneD K C "name" sn [.ref a, v] (upd H a (exo a C none)) (fun v H2 => v = .non ∧ ∃ dd fs, H2 a = some (exo a C (some dd)) ∧ H2 dd = some (exd dd fs) ∧ H dd = none ∧ E (.ref C) (some dd) (upd (del H2 a) dd (.xd fs))) (fun _ _ _ => False) :=
      fun hb a na => raise_name hd hs hb na fun H' dd y nd nda ha hd2 hE' => ⟨ha, hd2, nd, hE'⟩
    rcases hq with ⟨z, u, rfl, hv, q⟩ | ⟨hno, hE⟩
    · cases hd
      refine iteF ?_
      have hg : DGet H t (.str z) (some u) := by
        have h := DGet.k (k := Sum.inr z) ht
        rw [hv] at h
        exact h
      refine ⟨_, rfl, _, rfl, t, some u, rfl, hg, _, rfl, ifF rfl ?_⟩
      exact ⟨_, rfl, _, rfl, t, u, rfl, hg, q⟩
    · by_cases hz : isS d = true
      · cases hd with
        | str z =>
          refine iteF ?_
          have hg : DGet H t (.str z) none := by
            have h := DGet.k (k := Sum.inr z) ht
            rw [hno z rfl] at h
            exact h
          refine ⟨_, rfl, _, rfl, t, none, rfl, hg, _, rfl, ifT rfl ?_⟩
          exact ⟨_, rfl, by show 1 ≤ 1000; decide, raised hE⟩
        | _ => cases hz
      · have hz' : isS d = false := by simpa using hz
        rw [hz']
        refine iteT ?_
        exact ⟨_, rfl, by show 1 ≤ 1000; decide, raised hE⟩
end
/-! ### a making's form, by its name -/
def tCallT (sp : Sp) (dvs : List V) (W : WX) (t : TA) : TE := fun σ H Q => t σ H fun vs H1 => sp (vs ++ dvs) H1 Q (WE W σ)
section
variable {X : Cx} {k j : Nat} {x : Str} {sp : Sp} {p pos : Pos} {e : Expr} {es : List Expr} {t : TA} {dvs : List V}
theorem pe_cT {W : WX} (c : CalX X.prog X.w X.K X.mg X.base k x sp dvs) (hr : Room j X.A) (hk : k ≤ j) (hg : Gl X x) (tkw : Takes X W) (ha : PA X (e :: es) t) (hdb : (x == ("__debug__" : Str)) = false := by decide)
    (he : starEach (e :: es) X.env = (false, eval e X.env) :: starEach es X.env := by rfl) (hpl : (backTo pos (starEach es X.env)).any (·.1) = false := by rfl) :
    PE X (.Call (.Name x p) (e :: es) [] pos) (tCallT sp dvs W t) := by
  obtain ⟨f, fd, ps, ds, F, hm, kp, b, d⟩ := c.ex
  refine ⟨fun pins s σ H Q I h => wpAny_Call_Name_kw (ld_glob I hg hm ?_ hdb)⟩
  refine PySem.W.callWith_K (h₀ := X.base) I.ok.mod.kin kp (thn (ha.run pos pins s σ H _ I h) fun us s1 ⟨vs, H1, I1, r, q⟩ => ⟨I1.kIn, ?_⟩) he hpl
  have r2 : Vals (vs ++ dvs) (us ++ ds) := Vals.append r d
  have hl : (us ++ ds).length = ps.length := by
    rw [← r2.length]
    exact F.len _ _ _ _ q
  refine wpAny_call (codeAny_mono (F.run X.A X.stack s1 H1 ⟨us, []⟩ (us ++ ds) (vs ++ dvs) Q (WE W σ) (hr.mono hk) I1.env0 (b s1 us I1.kIn hl) r2 q) fun res s' hq => ?_)
  cases res with
  | error er => exact passAt tkw σ pins H1 s1 er s' I1 hq
  | ok fl =>
    cases fl with
    | ret u => exact I1.after hq
    | next => exact hq.elim
    | brk => exact hq.elim
    | cont => exact hq.elim
end
abbrev s_GM : Stmt := (inClass (top 51) 6)
abbrev N_GM : List Str := ["self", "making"]
theorem sc_GM : FnScope N_GM N_GM (defScope s_GM) := ⟨rfl, rfl, rfl, by decide +kernel, rfl, by decide +kernel, by decide +kernel⟩
theorem lk6m (a b c d e f : V) : (g6 a b c d e f).lookup (("making_table" : String) : Str) = some c := by with_unfolding_all rfl
def spMakOf (K : PySem.W.Frag) (P : Program) (w : World) (G C : Addr) (sn : Nat) : Sp := fun vs H Q E => ∃ (Z : Hp) (x : Addr) (v : V) (d : PyData) (rs : List SRow) (ms : List MRow) (ru : List RRow) (roof : Nat), vs = [.ref x, v] ∧ GrOk K P w G Z H x rs ms ru roof ∧ (ms.map MRow.nm).Nodup ∧ Dp K H v d ∧ Sm sn d ∧
  ((∃ m ∈ ms, d = strD m.nm ∧ ∀ u, Dp K H u (mT m).r → Q u H) ∨ ((∀ m ∈ ms, d ≠ strD m.nm) ∧ NoNm K C H d E))
theorem Tab.noneS {K : PySem.W.Frag} {H : Hp} {z : Str} : ∀ {kvs : List (Key × V)} {ts : List T3}, Tab K H kvs ts → (∀ t ∈ ts, z ≠ SX.S t.k) → valV kvs (Sum.inr z) = Option.none
  | _, _, .nil, _ => rfl
  | _, _, .cons (b := t) a r, h => by
    rw [valV_neg (fun e => h t (List.mem_cons_self ..) (Sum.inr.inj (e.symm.trans a.1)))]
    exact Tab.noneS r fun t' ht => h t' (List.mem_cons_of_mem _ ht)
section
variable {P : Program} {w : World} {K : PySem.W.Frag} {mg : Str → Option Value} {base : Heap} {G C : Addr}
theorem ok_making_of {sn : Nat} {f : Addr} {fd : FuncData} (gc : GCls K G) (cfound_by : CalX P w K mg base (sn + 4) "found_by" (spFound K C sn) []) (F : L2.Fun K "making_of" "Grammar.making_of" s_GM f fd) : FnOk P w K mg base (L2.CX P w) (sn + 5) f fd N_GM (spMakOf K P w G C sn) := by
  refine F.okX sc_GM (fun vs H Q E h => ?_) (fun cdv A' outer s H vs Q E hr h => ?_)
  · obtain ⟨Z, x, v, d, rs, ms, ru, roof, rfl, _⟩ := h
    rfl
  · obtain ⟨Z, x, v, d, rs, ms, ru, roof, rfl, go, hnd, hd, hs, hq⟩ := h
    obtain ⟨dx, sd, md, rd, kd, rt, hx, _, ⟨kvs, hmd, htab⟩, _⟩ := go.ex
    refine ⟨_, pss_one (ps_ret (pe_cT cfound_by hr (by omega) (by rfl) (takes_of rfl rfl rfl rfl) (pa_cons (pv 1) (pa_cons (pe_fld (pv 0) (by rfl)) pa_nil)))), ?_⟩
    refine ⟨_, rfl, _, rfl, x, G, dx, _, .ref md, rfl, hx, gc.c, gc.making, lk6m _ _ _ _ _ _, v, md, d, kvs, rfl, hd, hs, hmd, ?_⟩
    rcases hq with ⟨m, hm, rfl, q⟩ | ⟨hno, hE⟩
    · obtain ⟨u, e, hu⟩ := htab.val (t := mT m) (by rw [mT_k]; exact hnd) (List.mem_map_of_mem hm)
      exact .inl ⟨SX.S m.nm, u, rfl, e, q u hu⟩
    · refine .inr ⟨fun z ez => htab.noneS fun t ht => ?_, hE⟩
      obtain ⟨m, hm, rfl⟩ := List.mem_map.mp ht
      exact fun e => hno m hm (by rw [ez, e]; rfl)
end
/-! ### a method that may raise, inside a try -/
def tMethT (C : Addr) (m : Str) (sp : Sp) (W : WX) (ta : TE) (t : TA) : TE := fun σ H Q => ta σ H fun x H1 => ∃ a dx fs, x = .ref a ∧ H1 a = some (.ins C dx fs) ∧ fs.lookup m = none ∧ t σ H1 fun vs H2 => sp (x :: vs) H2 Q (WE W σ)
theorem pe_methT {X : Cx} {k : Nat} {C f : Addr} {fd : FuncData} {ps : List Str} {m : Str} {sp : Sp} {W : WX} {o e : Expr} {es : List Expr} {ta : TE} {t : TA} {apos pos : Pos} {pl : Sem Bool} (he : PE X o ta) (c : Cls X.K C) (hm : Meth X.K C m f)
    (F : FnOk X.prog X.w X.K X.mg X.base (L2.CX X.prog X.w) k f fd ps sp) (b : Binds X.K fd ps []) (hr : Room k X.A) (tkw : Takes X W) (ha : PA X (e :: es) t)
    (hst : starEach (e :: es) X.env = (false, eval e X.env) :: starEach es X.env := by rfl) (hpl : (backTo pos (starEach es X.env)).any (·.1) = false := by rfl)
    (ht : eval (.Call (.Attribute o m apos) (e :: es) [] pos) X.env = (do
      let ov ← eval o X.env
      standAt apos.atName
      let (f, first) ← holding [ov] (getMethod ov m pl)
      callWith pos f first (backTo pos (starEach (e :: es) X.env)) (backToKw pos (keywordEach [] X.env))) := by rfl) :
    PE X (.Call (.Attribute o m apos) (e :: es) [] pos) (tMethT C m sp W ta t) := by
  refine ⟨fun pins s σ H Q I h => ?_⟩
  refine PySem.W.methodCall_KW (pl := pl) (thn (he.run pins s σ H _ I h) fun u s1 ⟨x, H1, I1, rx, a, dx, fs, ex, ea, l, q⟩ => ?_) ht
  subst ex
  obtain rfl : u = Value.ref a := rx
  refine getmeth_ok I1 ea c hm l ?_
  refine PySem.W.callWith_K (first := [.ref a]) (h₀ := X.base) I.ok.mod.kin hm.kp (thn (ha.run pos pins s1 σ H1 _ I1 q) fun us s2 ⟨vs, H2, I2, r, q2⟩ => ⟨I2.kIn, ?_⟩) hst hpl
  have r2 : Vals (V.ref a :: vs) (Value.ref a :: us ++ []) := by
    rw [List.append_nil]
    exact .cons rfl r
  have hl : (Value.ref a :: us ++ []).length = ps.length := by
    rw [← r2.length]
    exact F.len _ _ _ _ q2
  refine wpAny_call (codeAny_mono (F.run X.A X.stack s2 H2 ⟨Value.ref a :: us, []⟩ (Value.ref a :: us ++ []) (V.ref a :: vs) Q (WE W σ) hr I2.env0 (b s2 (Value.ref a :: us) I2.kIn hl) r2 q2) fun res s' hq => ?_)
  cases res with
  | error er => exact passAt tkw σ pins H2 s2 er s' I2 hq
  | ok fl =>
    cases fl with
    | ret u => exact I2.after hq
    | next => exact hq.elim
    | brk => exact hq.elim
    | cont => exact hq.elim
theorem takes_no {X : Cx} : Takes X (fun _ _ _ _ => False) := fun _ _ ⟨_, _, _, _, _, _, _, _, _, _, _, _, _, _, _, _, h⟩ => h.elim
abbrev s_form_of : Stmt := top 15
abbrev N_form_of : List Str := ["grammar", "making"]
abbrev P_form_of : List Str := ["grammar", "making"]
theorem sc_form_of : FnScope N_form_of P_form_of (defScope s_form_of) := ⟨rfl, rfl, rfl, by decide +kernel, rfl, by decide +kernel, by decide +kernel⟩
/-- the name of the error, and that its own except takes it -/
structure NmE (K : PySem.W.Frag) (mg : Str → Option Value) (C : Addr) : Prop where
  nl : mg "NoName" = some (.ref C)
  ex : PySem.W.exmOne K (.ref C) (.ref C) = some true
/-- the method, in the written part -/
structure GMeth (P : Program) (w : World) (K : PySem.W.Frag) (mg : Str → Option Value) (base : Heap) (G C : Addr) (sn : Nat) : Prop where
  ex : ∃ (f : Addr) (fd : FuncData), FnOk P w K mg base (L2.CX P w) (sn + 5) f fd N_GM (spMakOf K P w G C sn) ∧ Meth K G "making_of" f ∧ Binds K fd N_GM []
theorem lk6n (a b c d e f : V) : (g6 a b c d e f).lookup (("making_of" : String) : Str) = none := by with_unfolding_all rfl
def spFormOf (K : PySem.W.Frag) (P : Program) (w : World) (G : Addr) (sn : Nat) : Sp := fun vs H Q _ => ∃ (Z : Hp) (x : Addr) (v : V) (d : PyData) (rs : List SRow) (ms : List MRow) (ru : List RRow) (roof : Nat), vs = [.ref x, v] ∧ GrOk K P w G Z H x rs ms ru roof ∧ (ms.map MRow.nm).Nodup ∧ Dp K H v d ∧ Sm sn d ∧
  (∀ m ∈ ms, d = strD m.nm → ∀ u, Dp K H u (mT m).r → Q u H) ∧ ((∀ m ∈ ms, d ≠ strD m.nm) → ∀ H', Same H H' → Q .non H')
section
variable {P : Program} {w : World} {K : PySem.W.Frag} {mg : Str → Option Value} {base : Heap} {G C : Addr}
theorem ok_form_of {sn : Nat} (gc : GCls K G) (N : NmE K mg C) (M : GMeth P w K mg base G C sn) (D : Dd K mg "form_of" s_form_of P_form_of) : C8.Cal P w K mg base (sn + 6) "form_of" (spFormOf K P w G sn) [] := by
  obtain ⟨fM, fdM, FM, mM, bM⟩ := M.ex
  refine D.cal sc_form_of (fun vs H Q E h => ?_) (fun f cdv A outer s H vs Q E hr h => ?_)
  · obtain ⟨Z, x, v, d, rs, ms, ru, roof, rfl, _⟩ := h
    rfl
  · obtain ⟨Z, x, v, d, rs, ms, ru, roof, rfl, go, hnd, hd, hs, hy, hn⟩ := h
    obtain ⟨dx, sd, md, rd, kd, rt, hx, _⟩ := go.ex
    refine ⟨_, pss_one (ps_try_only rfl rfl ⟨by rfl, by decide, .inl N.nl⟩ takes_no
      (fun W pn xe tk hp => pss_one (ps_ret (pe_methT (pv 0) gc.c mM FM bM hr tk (pa_cons (pv 1) pa_nil))))
      (fun a oe cls d pn hz hd => pss_one (ps_ret pe_non))), ?_⟩
    refine ⟨_, rfl, x, dx, _, rfl, hx, lk6n _ _ _ _ _ _, _, rfl, Z, x, v, d, rs, ms, ru, roof, rfl, go, hnd, hd, hs, ?_⟩
    by_cases hin : ∃ m ∈ ms, d = strD m.nm
    · obtain ⟨m, hm, e⟩ := hin
      exact .inl ⟨m, hm, e, fun u hu => hy m hm e u hu⟩
    · have hno : ∀ m ∈ ms, d ≠ strD m.nm := fun m hm e => hin ⟨m, hm, e⟩
      refine .inr ⟨hno, fun H' dd y s1 _ _ _ => ?_⟩
      exact ⟨true, N.ex, fun _ a na => hn hno _ s1, fun z => nomatch z⟩
end
def Nm (z : Str) : Prop := ∃ w, z = SX.S w ∧ NmOk w
theorem let_small {c : Nat} (h : isLet c = true) : c < 128 := by
  unfold isLet at h
  simp only [Bool.and_eq_true, decide_eq_true_eq] at h
  omega
mutual
/-- a tree so deep, of so many nodes -/
inductive Tr : Nat → Nat → PyData → Prop where
  | mk {n k : Nat} {z : Str} {i : Int} {ds : List PyData} (hz : Nm z) (h0 : 0 ≤ i) (h1 : i < 1000000) (hl : ds.length ≤ 2) (h : TrAll n k ds) : Tr (n + 1) (k + 1) (.tuple [.str z, .int i, .tuple ds])
inductive TrAll : Nat → Nat → List PyData → Prop where
  | nil (n : Nat) : TrAll n 0 []
  | cons {n k k' : Nat} {d : PyData} {ds : List PyData} (h : Tr n k d) (a : TrAll n k' ds) : TrAll n (k + k') (d :: ds)
end
theorem TrAll.snoc : ∀ {n k : Nat} {ds : List PyData}, TrAll n k ds → ∀ {k' : Nat} {d : PyData}, Tr n k' d → TrAll n (k + k') (ds ++ [d])
  | _, _, _, .nil n, k', d, h => by
    rw [Nat.zero_add]
    exact (show TrAll n (k' + 0) [d] from .cons h (.nil n))
  | _, _, _, .cons h0 a, k', d, h => by
    rw [Nat.add_assoc]
    exact .cons h0 (TrAll.snoc a h)
def partsD : PyData → List PyData
  | .tuple [_, _, .tuple ds] => ds
  | _ => []
/-- going by places -/
def stepD (t : PyData) : PyData → Option PyData
  | .int i => if 1 ≤ i ∧ i ≤ (partsD t).length then (partsD t)[(i - 1).toNat]? else none
  | _ => none
def goD : PyData → List PyData → Option PyData
  | t, [] => some t
  | t, p :: ps => match stepD t p with
    | some u => goD u ps
    | none => none
def thereD (t : PyData) : PyData → Bool
  | .tuple ps => (goD t ps).isSome
  | _ => false
theorem goD_snoc (t : PyData) : ∀ (ps : List PyData) (p : PyData), goD t (ps ++ [p]) = match goD t ps with
    | some u => stepD u p
    | none => none := by
  intro ps
  induction ps generalizing t with
  | nil =>
    intro p
    show (match stepD t p with | some u => goD u [] | none => none) = stepD t p
    cases stepD t p <;> rfl
  | cons q r ih =>
    intro p
    show (match stepD t q with | some u => goD u (r ++ [p]) | none => none) = _
    show _ = match (match stepD t q with | some u => goD u r | none => none) with
      | some u => stepD u p
      | none => none
    cases stepD t q with
    | none => rfl
    | some u => exact ih u p
theorem goD_none (t : PyData) : ∀ (ps qs : List PyData), goD t ps = none → goD t (ps ++ qs) = none := by
  intro ps
  induction ps generalizing t with
  | nil =>
    intro qs h
    cases h
  | cons q r ih =>
    intro qs h
    show (match stepD t q with | some u => goD u (r ++ qs) | none => none) = none
    have h2 : (match stepD t q with | some u => goD u r | none => none) = none := h
    cases e : stepD t q with
    | none => rfl
    | some u =>
      rw [e] at h2
      exact ih u qs h2
theorem Tr.part {n k : Nat} {t p u : PyData} (h : Tr n k t) (e : stepD t p = some u) : ∃ n' k', n' < n ∧ Tr n' k' u := by
  cases h with
  | mk hz h0 h1 hl ha =>
    rename_i n k z i ds
    have mem : u ∈ ds := by
      cases p with
      | int j =>
        have e2 : (if 1 ≤ j ∧ j ≤ ds.length then ds[(j - 1).toNat]? else none) = some u := e
        split at e2
        · exact List.mem_of_getElem? e2
        · cases e2
      | none => cases e
      | bool b => cases e
      | str z => cases e
      | list xs => cases e
      | tuple xs => cases e
      | dict kv => cases e
    have all : ∀ {k : Nat} {ds : List PyData}, TrAll n k ds → ∀ u ∈ ds, ∃ k', Tr n k' u := by
      intro k ds
      induction ds generalizing k with
      | nil => intro _ u hu; cases hu
      | cons d ds ih =>
        intro hh u hu
        cases hh with
        | cons h1 h2 =>
          rcases List.mem_cons.mp hu with rfl | hu
          · exact ⟨_, h1⟩
          · exact ih h2 u hu
    obtain ⟨k', hk'⟩ := all ha u mem
    exact ⟨n, k', Nat.lt_succ_self n, hk'⟩
/-- what a tree is on the heap -/
theorem tr_heap {K : PySem.W.Frag} {H : Hp} {n k : Nat} {v : V} {t : PyData} (h : Tr n k t) (hd : Dp K H v t) : ∃ (q r : Addr) (x y : V) (vs : List V), v = .ref q ∧ SqT K H q [x, y, .ref r] ∧ SqT K H r vs ∧ DpAll K H vs (partsD t) ∧ vs.length ≤ 2 := by
  cases h with
  | mk hz h0 h1 hl ha =>
    cases hd with
    | tup hS hA =>
      cases hA with
      | cons a1 hA =>
        cases hA with
        | cons a2 hA =>
          cases hA with
          | cons a3 hA =>
            cases hA
            cases a3 with
            | tup hS2 hA2 =>
              refine ⟨_, _, _, _, _, rfl, hS, hS2, hA2, ?_⟩
              rw [dpAll_len hA2]
              exact hl
theorem at_place {ws : List V} {j : Int} (hj : (j - 1).toNat < ws.length) (e1 : (1 : Int) ≤ j) : ∃ v, ws[(j - 1).toNat]? = some v ∧ atI ws (j - 1) = some v := by
  obtain ⟨m, hm⟩ : ∃ m : Nat, j - 1 = (m : Int) := ⟨(j - 1).toNat, by omega⟩
  rw [hm] at hj ⊢
  have hj : m < ws.length := by
    rw [Int.toNat_natCast] at hj
    exact hj
  rw [Int.toNat_natCast]
  exact ⟨ws[m], by simp [hj], atI_nat (by simp [hj])⟩
def kidsF : Nat → List Int → List PyData → List (List Int × PyData)
  | _, _, [] => []
  | i, p, d :: ds => (p ++ [(i : Int) + 1], d) :: kidsF (i + 1) p ds
def pathD (p : List Int) : PyData := .tuple (p.map PyData.int)
/-! ### the mathematics: all nodes, a part put in a place -/
mutual
theorem Tr.deeper : ∀ {n k : Nat} {d : PyData}, Tr n k d → Tr (n + 1) k d
  | _, _, _, .mk hz h0 h1 hl h => .mk hz h0 h1 hl (TrAll.deeper h)
theorem TrAll.deeper : ∀ {n k : Nat} {ds : List PyData}, TrAll n k ds → TrAll (n + 1) k ds
  | _, _, _, .nil n => .nil (n + 1)
  | _, _, _, .cons h a => .cons (Tr.deeper h) (TrAll.deeper a)
end
theorem Tr.mono {m n k : Nat} {d : PyData} (h : Tr m k d) (e : m ≤ n) : Tr n k d := by
  induction e with
  | refl => exact h
  | step _ ih => exact ih.deeper
theorem TrAll.mono {m n k : Nat} {ds : List PyData} (h : TrAll m k ds) (e : m ≤ n) : TrAll n k ds := by
  induction e with
  | refl => exact h
  | step _ ih => exact ih.deeper
mutual
theorem Tr.imm : ∀ {n k : Nat} {d : PyData}, Tr n k d → Thr.imm d = true
  | _, _, _, .mk (ds := ds) _ _ _ _ h => by
    show (true && (true && (immAll ds && true))) = true
    rw [TrAll.imm h]
    rfl
theorem TrAll.imm : ∀ {n k : Nat} {ds : List PyData}, TrAll n k ds → immAll ds = true
  | _, _, _, .nil _ => rfl
  | _, _, _, .cons (d := d) (ds := ds) h a => by
    show (Thr.imm d && immAll ds) = true
    rw [Tr.imm h, TrAll.imm a]
    rfl
end
mutual
theorem Tr.sm : ∀ {n k : Nat} {d : PyData}, Tr n k d → Sm (2 * n) d
  | _, _, _, .mk (n := n) (ds := ds) hz h0 h1 hl h => by
    refine .tup (2 * n + 1) (by show 3 ≤ 500; decide) fun x hx => ?_
    simp only [List.mem_cons, List.not_mem_nil, or_false] at hx
    rcases hx with rfl | rfl | rfl
    · exact .str _ _
    · exact .int _ _
    · exact .tup (2 * n) (by omega) (TrAll.sm h)
theorem TrAll.sm : ∀ {n k : Nat} {ds : List PyData}, TrAll n k ds → ∀ d ∈ ds, Sm (2 * n) d
  | _, _, _, .nil _ => fun d hd => nomatch hd
  | _, _, _, .cons h a => by
    have h1 := Tr.sm h
    have h2 := TrAll.sm a
    intro d hd
    rcases List.mem_cons.mp hd with e | hd
    · rw [e]
      exact h1
    · exact h2 d hd
end
theorem Sm.succ {n : Nat} {d : PyData} (h : Sm n d) : Sm (n + 1) d := by
  induction h with
  | non n => exact .non _
  | bl n b => exact .bl _ b
  | int n i => exact .int _ i
  | str n z => exact .str _ z
  | lst n h _ ih => exact .lst _ h ih
  | tup n h _ ih => exact .tup _ h ih
theorem Sm.up {m n : Nat} {d : PyData} (h : Sm m d) (e : m ≤ n) : Sm n d := by
  induction e with
  | refl => exact h
  | step _ ih => exact ih.succ
theorem TrAll.mem : ∀ {n k : Nat} {ds : List PyData}, TrAll n k ds → ∀ {i : Nat} {d : PyData}, ds[i]? = some d → ∃ kd, kd ≤ k ∧ Tr n kd d
  | _, _, _, .cons (k := k) (k' := k') h _, 0, d, e => ⟨k, Nat.le_add_right _ _, by rw [← Option.some.inj e]; exact h⟩
  | _, _, _, .cons (k := k) (k' := k') _ a, i + 1, d, e => by
    obtain ⟨kd, h1, h2⟩ := TrAll.mem a (i := i) e
    exact ⟨kd, by omega, h2⟩
/-- one of them in another's place -/
theorem TrAll.set : ∀ {n k : Nat} {ds : List PyData}, TrAll n k ds → ∀ {i : Nat} {d : PyData}, ds[i]? = some d → ∃ kd k0, k = kd + k0 ∧ Tr n kd d ∧ ∀ (N K' : Nat) (d' : PyData), n ≤ N → Tr N K' d' → TrAll N (K' + k0) (ds.take i ++ [d'] ++ ds.drop (i + 1))
  | _, _, _, .cons (k := k) (k' := k') (ds := ds) h a, 0, d, e => ⟨k, k', rfl, by rw [← Option.some.inj e]; exact h, fun N K' d' hN hd => .cons hd (a.mono hN)⟩
  | _, _, _, .cons (k := k) (k' := k') (d := d0) (ds := ds) h a, i + 1, d, e => by
    obtain ⟨kd, k0, h1, h2, h3⟩ := TrAll.set a (i := i) e
    refine ⟨kd, k + k0, by omega, h2, fun N K' d' hN hd => ?_⟩
    have := h3 N K' d' hN hd
    rw [show K' + (k + k0) = k + (K' + k0) by omega]
    exact .cons (h.mono hN) this
/-! all nodes -/
def goneF : Nat → List Int → PyData → List (List Int × PyData)
  | 0, _, _ => []
  | n + 1, p, t => (p, t) :: (kidsF 0 p (partsD t)).flatMap fun x => goneF n x.1 x.2
theorem kidsF_mem : ∀ (i : Nat) (p : List Int) (ds : List PyData) (x : List Int × PyData), x ∈ kidsF i p ds → ∃ (j : Nat) (d : PyData), ds[j]? = some d ∧ x = (p ++ [((i + j : Nat) : Int) + 1], d)
  | _, _, [], x, h => nomatch h
  | i, p, d :: ds, x, h => by
    rcases List.mem_cons.mp h with rfl | h
    · exact ⟨0, d, rfl, rfl⟩
    · obtain ⟨j, d', h1, h2⟩ := kidsF_mem (i + 1) p ds x h
      exact ⟨j + 1, d', h1, by rw [h2, show i + 1 + j = i + (j + 1) by omega]⟩
def intsD (s : List Int) : List PyData := s.map PyData.int
theorem stepD_at {t d : PyData} {j : Nat} (h : (partsD t)[j]? = some d) : stepD t (.int ((j : Int) + 1)) = some d := by
  have hj := (List.getElem?_eq_some_iff.mp h).1
  show (if 1 ≤ ((j : Int) + 1) ∧ ((j : Int) + 1) ≤ (partsD t).length then (partsD t)[((j : Int) + 1 - 1).toNat]? else none) = _
  rw [if_pos ⟨by omega, by omega⟩, show ((j : Int) + 1 - 1).toNat = j by omega]
  exact h
theorem gone_go : ∀ (n : Nat) {k : Nat} {t : PyData}, Tr n k t → ∀ (p : List Int) (x : List Int × PyData), x ∈ goneF n p t → ∃ s : List Int, x.1 = p ++ s ∧ goD t (intsD s) = some x.2 ∧ s.length < n ∧ ∃ k', k' ≤ k ∧ Tr n k' x.2 := by
  intro n
  induction n with
  | zero =>
    intro k t h
    cases h
  | succ n ih =>
    intro k t h p x hx
    rcases List.mem_cons.mp hx with rfl | hx1
    · exact ⟨[], (List.append_nil _).symm, rfl, by show 0 < n + 1; omega, k, Nat.le_refl _, h⟩
    · obtain ⟨y, hy, hx2⟩ := List.mem_flatMap.mp hx1
      clear hx hx1
      obtain ⟨j, d, hd, rfl⟩ := kidsF_mem 0 p _ y hy
      cases h with
      | mk hz h0 h1 hl ha =>
        rename_i k z i ds
        obtain ⟨kd, hkd, htd⟩ := ha.mem (i := j) hd
        obtain ⟨s, e1, e2, e3, k', hk', htr⟩ := ih htd _ x hx2
        refine ⟨((j : Int) + 1) :: s, ?_, ?_, by rw [List.length_cons]; omega, k', by omega, htr.deeper⟩
        · rw [e1, Nat.zero_add, List.append_assoc]
          rfl
        · show (match stepD _ (.int ((j : Int) + 1)) with | some u => goD u (intsD s) | none => none) = _
          rw [stepD_at (t := .tuple [.str z, .int i, .tuple ds]) (j := j) hd]
          exact e2
theorem gone_len : ∀ (n : Nat) {k : Nat} {t : PyData}, Tr n k t → ∀ p, (goneF n p t).length ≤ k := by
  intro n
  induction n with
  | zero =>
    intro k t h
    cases h
  | succ n ih =>
    intro k t h p
    cases h with
    | mk hz h0 h1 hl ha =>
      rename_i k z i ds
      have all : ∀ {ds : List PyData} {k : Nat}, TrAll n k ds → ∀ (i : Nat), ((kidsF i p ds).flatMap fun x => goneF n x.1 x.2).length ≤ k := by
        intro ds
        induction ds with
        | nil =>
          intro k a i
          exact Nat.zero_le _
        | cons d ds ihd =>
          intro k a i
          cases a with
          | cons h a =>
            rename_i k k'
            show ((goneF n (p ++ [(i : Int) + 1]) d) ++ (kidsF (i + 1) p ds).flatMap fun x => goneF n x.1 x.2).length ≤ k + k'
            rw [List.length_append]
            have := ih h (p ++ [(i : Int) + 1])
            have := ihd a (i + 1)
            omega
      show ((kidsF 0 p ds).flatMap fun x => goneF n x.1 x.2).length + 1 ≤ k + 1
      have := all ha 0
      omega
/-! a part put in a place -/
def setP (ds : List PyData) (j : Int) (d : PyData) : List PyData := ds.take (j - 1).toNat ++ [d] ++ ds.drop j.toNat
def reD : PyData → List PyData → PyData
  | .tuple [a, b, _], ds => .tuple [a, b, .tuple ds]
  | t, _ => t
def putD : PyData → List Int → PyData → PyData
  | _, [], r => r
  | t, j :: ps, r => reD t (setP (partsD t) j (putD ((partsD t).getD (j - 1).toNat .none) ps r))
/-- one step, told -/
theorem step_is {t u : PyData} {j : Int} (h : stepD t (.int j) = some u) : 1 ≤ j ∧ j ≤ (partsD t).length ∧ (partsD t)[(j - 1).toNat]? = some u := by
  have h : (if 1 ≤ j ∧ j ≤ (partsD t).length then (partsD t)[(j - 1).toNat]? else none) = some u := h
  split at h
  · rename_i c
    exact ⟨c.1, c.2, h⟩
  · cases h
theorem go_cons {t u : PyData} {j : Int} {s : List Int} (h : goD t (intsD (j :: s)) = some u) : ∃ d, stepD t (.int j) = some d ∧ goD d (intsD s) = some u := by
  have h : (match stepD t (.int j) with | some d => goD d (intsD s) | none => none) = some u := h
  cases e : stepD t (.int j) with
  | none => rw [e] at h; cases h
  | some d => rw [e] at h; exact ⟨d, rfl, h⟩
theorem setP_len {ds : List PyData} {j : Int} {d : PyData} (h1 : 1 ≤ j) (h2 : j ≤ ds.length) : (setP ds j d).length = ds.length := by
  unfold setP
  rw [List.length_append, List.length_append, List.length_take, List.length_drop]
  show _ + 1 + _ = _
  omega
theorem setP_at {ds : List PyData} {j : Int} {d : PyData} (h1 : 1 ≤ j) (h2 : j ≤ ds.length) : (setP ds j d)[(j - 1).toNat]? = some d := by
  unfold setP
  have l1 : (ds.take (j - 1).toNat).length = (j - 1).toNat := by
    rw [List.length_take]
    omega
  rw [List.append_assoc, List.getElem?_append_right (by omega), l1, Nat.sub_self]
  rfl
theorem setP_self {ds : List PyData} {j : Int} {d : PyData} (h1 : 1 ≤ j) (h : ds[(j - 1).toNat]? = some d) : setP ds j d = ds := by
  unfold setP
  have hl := (List.getElem?_eq_some_iff.mp h).1
  have e : ds[(j - 1).toNat] = d := by
    rw [List.getElem?_eq_getElem hl] at h
    exact Option.some.inj h
  rw [show j.toNat = (j - 1).toNat + 1 by omega, ← e, List.append_assoc]
  show ds.take (j - 1).toNat ++ (ds[(j - 1).toNat] :: ds.drop ((j - 1).toNat + 1)) = ds
  rw [← List.drop_eq_getElem_cons hl, List.take_append_drop]
theorem setP_setP {ds : List PyData} {j : Int} {d e : PyData} (h1 : 1 ≤ j) (h2 : j ≤ ds.length) : setP (setP ds j d) j e = setP ds j e := by
  unfold setP
  have l1 : (ds.take (j - 1).toNat).length = (j - 1).toNat := by
    rw [List.length_take]
    omega
  have e1 : (ds.take (j - 1).toNat ++ [d] ++ ds.drop j.toNat).take (j - 1).toNat = ds.take (j - 1).toNat := by
    rw [List.append_assoc, List.take_left' l1]
  have e2 : (ds.take (j - 1).toNat ++ [d] ++ ds.drop j.toNat).drop j.toNat = ds.drop j.toNat := by
    rw [List.drop_left' (by rw [List.length_append, l1]; show _ + 1 = _; omega)]
  rw [e1, e2]
theorem Tr.re {n k : Nat} {t : PyData} (h : Tr n k t) (ds : List PyData) : partsD (reD t ds) = ds ∧ reD t (partsD t) = t ∧ ∀ es, reD (reD t ds) es = reD t es := by
  cases h
  exact ⟨rfl, rfl, fun _ => rfl⟩
theorem getD_at {ds : List PyData} {i : Nat} {d : PyData} (h : ds[i]? = some d) : ds.getD i .none = d := by
  rw [List.getD_eq_getElem?_getD, h]
  rfl
theorem put_self : ∀ {s : List Int} {n k : Nat} {t u : PyData}, Tr n k t → goD t (intsD s) = some u → putD t s u = t
  | [], _, _, t, u, _, h => by
    cases h
    rfl
  | j :: s, n, k, t, u, ht, h => by
    obtain ⟨d, h1, h2⟩ := go_cons h
    obtain ⟨n', k', _, htd⟩ := ht.part h1
    obtain ⟨g1, g2, g3⟩ := step_is h1
    show reD t (setP (partsD t) j (putD ((partsD t).getD (j - 1).toNat .none) s u)) = t
    rw [getD_at g3, put_self htd h2, setP_self g1 g3]
    exact (ht.re []).2.1
theorem put_get : ∀ {s : List Int} {n k : Nat} {t u : PyData} (r : PyData), Tr n k t → goD t (intsD s) = some u → goD (putD t s r) (intsD s) = some r
  | [], _, _, t, u, r, _, h => rfl
  | j :: s, n, k, t, u, r, ht, h => by
    obtain ⟨d, h1, h2⟩ := go_cons h
    obtain ⟨n', k', _, htd⟩ := ht.part h1
    obtain ⟨g1, g2, g3⟩ := step_is h1
    show (match stepD (reD t (setP (partsD t) j (putD ((partsD t).getD (j - 1).toNat .none) s r))) (.int j) with | some d => goD d (intsD s) | none => none) = some r
    rw [getD_at g3]
    have e : stepD (reD t (setP (partsD t) j (putD d s r))) (.int j) = some (putD d s r) := by
      show (if 1 ≤ j ∧ j ≤ (partsD (reD t (setP (partsD t) j (putD d s r)))).length then (partsD (reD t (setP (partsD t) j (putD d s r))))[(j - 1).toNat]? else none) = _
      rw [(ht.re _).1, if_pos ⟨g1, by rw [setP_len g1 g2]; exact g2⟩, setP_at g1 g2]
    rw [e]
    exact put_get r htd h2
theorem put_put : ∀ {s : List Int} {n k : Nat} {t u : PyData} (r q : PyData), Tr n k t → goD t (intsD s) = some u → putD (putD t s r) s q = putD t s q
  | [], _, _, t, u, r, q, _, h => rfl
  | j :: s, n, k, t, u, r, q, ht, h => by
    obtain ⟨d, h1, h2⟩ := go_cons h
    obtain ⟨n', k', _, htd⟩ := ht.part h1
    obtain ⟨g1, g2, g3⟩ := step_is h1
    have e1 : putD t (j :: s) r = reD t (setP (partsD t) j (putD d s r)) := by
      show reD t (setP (partsD t) j (putD ((partsD t).getD (j - 1).toNat .none) s r)) = _
      rw [getD_at g3]
    have e2 : putD t (j :: s) q = reD t (setP (partsD t) j (putD d s q)) := by
      show reD t (setP (partsD t) j (putD ((partsD t).getD (j - 1).toNat .none) s q)) = _
      rw [getD_at g3]
    rw [e1, e2]
    show reD (reD t (setP (partsD t) j (putD d s r))) (setP (partsD (reD t (setP (partsD t) j (putD d s r)))) j (putD ((partsD (reD t (setP (partsD t) j (putD d s r)))).getD (j - 1).toNat .none) s q)) = _
    rw [(ht.re _).1, (ht.re _).2.2, getD_at (setP_at g1 g2), put_put r q htd h2, setP_setP g1 g2]
theorem put_tr : ∀ {s : List Int} {n k m k' : Nat} {t u r : PyData}, Tr n k t → Tr m k' r → goD t (intsD s) = some u → ∃ K', K' ≤ k + k' ∧ Tr (n + m) K' (putD t s r)
  | [], n, k, m, k', t, u, r, ht, hr, h => ⟨k', by omega, hr.mono (by omega)⟩
  | j :: s, n, k, m, k', t, u, r, ht, hr, h => by
    obtain ⟨d, h1, h2⟩ := go_cons h
    obtain ⟨g1, g2, g3⟩ := step_is h1
    have e1 : putD t (j :: s) r = reD t (setP (partsD t) j (putD d s r)) := by
      show reD t (setP (partsD t) j (putD ((partsD t).getD (j - 1).toNat .none) s r)) = _
      rw [getD_at g3]
    rw [e1]
    cases ht with
    | mk hz h0 h1' hl ha =>
      rename_i n k z i ds
      have g3 : ds[(j - 1).toNat]? = some d := g3
      have g2 : j ≤ (ds.length : Int) := g2
      obtain ⟨kd, k0, q1, q2, q3⟩ := ha.set g3
      obtain ⟨K', hK, htr⟩ := put_tr (s := s) q2 hr h2
      have hall := q3 (n + m) K' _ (by omega) htr
      refine ⟨K' + k0 + 1, by omega, ?_⟩
      rw [show n + 1 + m = (n + m) + 1 by omega]
      refine .mk hz h0 h1' ?_ ?_
      · show (setP ds j (putD d s r)).length ≤ 2
        rw [setP_len g1 g2]
        exact hl
      · show TrAll (n + m) (K' + k0) (setP ds j (putD d s r))
        unfold setP
        rw [show j.toNat = (j - 1).toNat + 1 by omega]
        exact hall
/-! lists of paths -/
theorem ints_lay : ∀ p : List Int, PyData.canLayAll0 (p.map PyData.int) = true ∧ PyData.depthAll (p.map PyData.int) = 0
  | [] => ⟨rfl, rfl⟩
  | i :: p => by
    obtain ⟨h1, h2⟩ := ints_lay p
    refine ⟨?_, ?_⟩
    · show (true && PyData.canLayAll0 (p.map PyData.int)) = true
      rw [h1]
      rfl
    · show max 0 (PyData.depthAll (p.map PyData.int)) = 0
      rw [h2]
      rfl
theorem ints_sm (p : List Int) (h : p.length ≤ 500) (n : Nat) : Sm (n + 1) (pathD p) := .tup n (by rw [List.length_map]; exact h) fun d hd => by
  obtain ⟨i, _, rfl⟩ := List.mem_map.mp hd
  exact .int _ _
theorem paths_sm (ps : List (List Int)) (h : ps.length ≤ 500) (hp : ∀ p ∈ ps, p.length ≤ 500) (n : Nat) : Sm (n + 2) (.list (ps.map pathD)) := .lst (n + 1) (by rw [List.length_map]; exact h) fun d hd => by
  obtain ⟨p, hpm, rfl⟩ := List.mem_map.mp hd
  exact ints_sm p (hp p hpm) n
def pairD (x : List Int × PyData) : PyData := .tuple [pathD x.1, x.2]
theorem ints_imm : ∀ p : List Int, immAll (p.map PyData.int) = true := immAll_map fun _ => rfl
theorem pair_imm {n k : Nat} {x : List Int × PyData} (h : Tr n k x.2) : imm (pairD x) = true := by
  show (immAll (x.1.map PyData.int) && (imm x.2 && true)) = true
  rw [ints_imm, h.imm]
  rfl
/-- a tree in the heap -/
theorem tr_parts {K : PySem.W.Frag} {H : Hp} {n k : Nat} {v : V} {t : PyData} (h : Tr n k t) (hd : Dp K H v t) : ∃ (q r : Addr) (z : Str) (i : Int) (vs : List V), v = .ref q ∧ SqT K H q [.str z, .int i, .ref r] ∧ SqT K H r vs ∧ DpAll K H vs (partsD t) ∧ vs.length ≤ 2 ∧ (∀ es, reD t es = .tuple [.str z, .int i, .tuple es]) := by
  cases h with
  | mk hz h0 h1 hl ha =>
    rename_i n k z i ds
    cases hd with
    | tup hS hA =>
      rename_i q xs
      cases hA with
      | cons a1 hA =>
        cases hA with
        | cons a2 hA =>
          cases hA with
          | cons a3 hA =>
            cases hA
            cases a1
            cases a2
            cases a3 with
            | tup hS3 hA3 =>
              rename_i p ps
              exact ⟨q, p, z, i, ps, rfl, hS, hS3, hA3, by rw [dpAll_len hA3]; exact hl, fun _ => rfl⟩
theorem dp_path {K : PySem.W.Frag} {H : Hp} {v : V} {p : List Int} (h : Dp K H v (pathD p)) : ∃ q, v = .ref q ∧ SqT K H q (p.map V.int) := by
  cases h with
  | tup hS hA =>
    rename_i q xs
    refine ⟨q, rfl, ?_⟩
    have : ∀ {vs : List V} {p : List Int}, DpAll K H vs (p.map PyData.int) → vs = p.map V.int := by
      intro vs
      induction vs with
      | nil =>
        intro p a
        cases p with
        | nil => rfl
        | cons i p => cases a
      | cons v vs ih =>
        intro p a
        cases p with
        | nil => cases a
        | cons i p =>
          cases a with
          | cons h a =>
            cases h
            rw [ih a]
            rfl
    rw [← this hA]
    exact hS
theorem path_dp {K : PySem.W.Frag} {H : Hp} {q : Addr} {p : List Int} (h : SqT K H q (p.map V.int)) : Dp K H (.ref q) (pathD p) := by
  refine .tup h ?_
  clear h
  induction p with
  | nil => exact .nil
  | cons i p ih => exact .cons (.int i) ih
theorem dp_pair {K : PySem.W.Frag} {H : Hp} {v : V} {x : List Int × PyData} (h : Dp K H v (pairD x)) : ∃ q pv nv, v = .ref q ∧ SqT K H q [pv, nv] ∧ Dp K H pv (pathD x.1) ∧ Dp K H nv x.2 := by
  cases h with
  | tup hS hA =>
    rename_i q xs
    cases hA with
    | cons a1 hA =>
      cases hA with
      | cons a2 hA =>
        cases hA
        exact ⟨q, _, _, rfl, hS, a1, a2⟩
mutual
theorem gt_tr {ms : List MRow} (hm : ∀ m ∈ ms, NmOk m.nm ∧ m.pt.length ≤ 2) : ∀ {k : List Nat} {n j : Nat} {d : PyData}, Gt ms k n j d → Tr n j d
  | _, _, _, _, .mk (mr := mr) (i := i) hmr h0 h1 h => by
    obtain ⟨ha, hl⟩ := gtAll_tr hm h
    obtain ⟨g1, g2⟩ := hm mr hmr
    exact .mk ⟨mr.nm, rfl, g1⟩ h0 h1 (by rw [hl]; exact g2) ha
theorem gtAll_tr {ms : List MRow} (hm : ∀ m ∈ ms, NmOk m.nm ∧ m.pt.length ≤ 2) : ∀ {ks : List (List Nat)} {n j : Nat} {ds : List PyData}, GtAll ms ks n j ds → TrAll n j ds ∧ ds.length = ks.length
  | _, _, _, _, .nil n => ⟨.nil n, rfl⟩
  | _, _, _, _, .cons h a => by
    obtain ⟨h3, h4⟩ := gtAll_tr hm a
    exact ⟨.cons (gt_tr hm h) h3, by rw [List.length_cons, List.length_cons, h4]⟩
end
abbrev s__law_gone : Stmt := top 67
abbrev N__law_gone : List Str := ["_law_tree", "_law_path", "_law_found", "_law_at", "_law_part"]
abbrev P__law_gone : List Str := ["_law_tree", "_law_path"]
theorem sc__law_gone : FnScope N__law_gone P__law_gone (defScope s__law_gone) := ⟨rfl, rfl, rfl, by decide +kernel, rfl, by decide +kernel, by decide +kernel⟩
abbrev s__law_put : Stmt := top 70
abbrev N__law_put : List Str := ["_law_tree", "_law_path", "_law_part", "_law_parts", "_law_place"]
abbrev P__law_put : List Str := ["_law_tree", "_law_path", "_law_part"]
theorem sc__law_put : FnScope N__law_put P__law_put (defScope s__law_put) := ⟨rfl, rfl, rfl, by decide +kernel, rfl, by decide +kernel, by decide +kernel⟩
def spPut5 (K : PySem.W.Frag) (m : Nat) : Sp := fun vs H Q _ => ∃ (v x rv : V) (t u r : PyData) (s : List Int) (n k : Nat), vs = [v, x, rv] ∧ Dp K H v t ∧ Tr n k t ∧ Dp K H x (pathD s) ∧ s.length ≤ m ∧ goD t (intsD s) = some u ∧ Dp K H rv r ∧ ∀ (H' : Hp) (uv : V), Same H H' → Dp K H' uv (putD t s r) → Q uv H'
def spGone (K : PySem.W.Frag) (n : Nat) : Sp := fun vs H Q _ => ∃ (v pv : V) (t : PyData) (p : List Int) (k : Nat), vs = [v, pv] ∧ Dp K H v t ∧ Tr n k t ∧ Dp K H pv (pathD p) ∧ p.length + n ≤ 300 ∧ k ≤ 400 ∧
  ∀ (H' : Hp) (l : Addr) (es : List V), Same H H' → H l = none → H' l = some (.lst es) → DpAll K H' es ((goneF n p t).map pairD) → Q (.ref l) H'
structure Go5 (mg : Str → Option Value) : Prop where
  enumerate : mg "enumerate" = none
section
variable {P : Program} {w : World} {K : PySem.W.Frag} {mg : Str → Option Value} {base : Heap}
/-! by the law's own going -/
theorem ok_gone (T : Go5 mg) (D : Dd K mg "_law_gone" s__law_gone P__law_gone) : ∀ n, C8.Cal P w K mg base (n + 1) "_law_gone" (spGone K n) [] := by
  intro n
  induction n with
  | zero =>
    refine D.cal sc__law_gone (fun vs H Q E h => ?_) (fun f cdv A outer s H vs Q E hr h => ?_)
    · obtain ⟨v, pw, t, p, k, rfl, _⟩ := h
      rfl
    · obtain ⟨v, pw, t, p, k, rfl, _, tr, _⟩ := h
      cases tr
  | succ n c_law_gone =>
    refine D.cal sc__law_gone (fun vs H Q E h => ?_) (fun f cdv A outer s H vs Q E hr h => ?_)
    · obtain ⟨v, pw, t, p, k, rfl, _⟩ := h
      rfl
    · obtain ⟨v, pw, t, p, k, rfl, hv, tr, hp, hpn, hk, q⟩ := h
      refine ⟨_, (pss_cons (ps_set (i := 2) sc__law_gone.nd rfl (Or.inl rfl) (pe_lst (pa_cons (pe_tup (pa_cons (pv 1) (pa_cons (pv 0) pa_nil))) pa_nil)))
          (pss_cons (ps_for PassesOwn.never rfl (pi_enumT (by rfl) T.enumerate (pa_cons (pe_ix ix_tup (pv 0) pe_int (fun _ _ => rfl)) pa_nil)) (pg_tup rfl (pgs_cons (pg_name (i := 3) sc__law_gone.nd rfl (Or.inl rfl)) (pgs_cons (pg_name (i := 4) sc__law_gone.nd rfl (Or.inl rfl)) pgs_nil)))
            (pss_one (ps_set (i := 2) sc__law_gone.nd rfl (Or.inl rfl) (pe_op op_cat (pv 2) (C8.pe_c c_law_gone hr (by omega) (by rfl) (pa_cons (pv 4) (pa_cons (pe_op op_catAny (pv 1) (pe_tup (pa_cons (pe_op op_add (pv 3) pe_int) pa_nil))) pa_nil)))))))
          (pss_one (ps_ret (pv 2))))), ?_⟩
      obtain ⟨q1, q2, z, i, us, rfl, hS1, hS2, hA2, hus, hre⟩ := tr_parts tr hv
      obtain ⟨pq, rfl, hpS⟩ := dp_path hp
      refine ⟨_, rfl, _, rfl, by show 2 ≤ sizeLine; decide, fun t1 n1 => ⟨by show 1 ≤ sizeLine; decide, fun L nL => ?_⟩⟩
      have g1 := same_upd (o := .tup [.ref pq, .ref q1]) n1
      have g2 := same_upd (o := .lst [.ref t1]) nL
      have s0 := g1.trans g2
      refine ⟨_, rfl, q1, _, 2, .ref q2, rfl, rfl, Same.seqT s0 hS1, atI_nat (j := 2) rfl, q2, us, rfl, Same.seqT s0 hS2, ?_⟩
      have hpar : ∃ k', k' ≤ k ∧ TrAll n k' (partsD t) := by
        cases tr with
        | mk hz h0 h1 hl ha => exact ⟨_, by omega, ha⟩
      obtain ⟨k', hk', hall⟩ := hpar
      refine for_it walk_enumT (fun j σ Y => ∃ y3 y4 l es, σ = [some (.ref q1), some (.ref pq), some (.ref l), y3, y4] ∧ Same H Y ∧ H l = none ∧ Y l = some (.lst es) ∧ DpAll K Y es (((p, t) :: (kidsF 0 p ((partsD t).take j)).flatMap fun x => goneF n x.1 x.2).map pairD) ∧ SqT K Y q2 us ∧ j ≤ us.length)
        ⟨none, none, L, [.ref t1], rfl, s0, g1.free nL, upd_same, ?_, Same.seqT s0 hS2, Nat.zero_le _⟩ (fun i σ Y _ ⟨_, _, _, _, _, _, _, _, _, h, _⟩ => h) ?_ ?_
      · rw [List.take_zero]
        exact .cons (.tup (SqT.of (g2 _ _ upd_same)) (.cons (dp_same s0 hp) (.cons (dp_same s0 hv) .nil))) .nil
      · rintro j x σ Y0 Yz hj ⟨y3, y4, l, es, rfl, sY, nl, hl, hes, hS2Y, hjl⟩ ⟨TT, xx, yy, rfl, nT, rfl, ex, ey⟩
        cases ex
        have ey : us[j]? = some yy := ey
        obtain ⟨d, hd, hyd⟩ := dpAll_at hA2 ey
        obtain ⟨kd, hkd, htd⟩ := hall.mem hd
        have sT := same_upd (o := .tup [.int ((j : Nat) : Int), yy]) nT
        have hTT : SqT K (upd Y0 TT (.tup [.int ((j : Nat) : Int), yy])) TT [.int ((j : Nat) : Int), yy] := SqT.of upd_same
        have sY1 := sY.trans sT
        have hl1 := sT _ _ hl
        have hes1 := dpAll_same sT hes
        obtain ⟨Y, eY⟩ : ∃ Y, Y = upd Y0 TT (.tup [.int ((j : Nat) : Int), yy]) := ⟨_, rfl⟩
        rw [← eY] at hTT sY1 hl1 hes1 ⊢
        have les := dpAll_len hes
        have lgone := gone_len (n + 1) tr p
        refine ⟨TT, _, rfl, hTT, rfl, _, _, rfl, _, _, rfl, rfl, ?_⟩
        refine ⟨_, rfl, _, rfl, _, rfl, _, rfl, _, _, rfl, rfl, by show 1 ≤ sizeLine; decide, fun t2 n2 => ?_⟩
        have g3 := same_upd (o := .tup [.int (((j : Nat) : Int) + 1)]) n2
        refine ⟨pq, t2, p.map V.int, [.int (((j : Nat) : Int) + 1)], rfl, rfl, Same.seqT (sY1.trans g3) hpS, SqT.of upd_same, Nat.le_trans (show _ ≤ 400 from by rw [List.length_map]; show p.length + 1 ≤ 400; omega) (by decide), fun Y2 p2 s2 hp2 => ?_⟩
        have hp2 : SqT K Y2 p2 ((p ++ [((j : Nat) : Int) + 1]).map V.int) := by
          rw [List.map_append]
          exact hp2
        have s12 := g3.trans s2
        refine ⟨yy, .ref p2, d, p ++ [((j : Nat) : Int) + 1], kd, rfl, dp_same (sY1.trans s12) hyd, htd, path_dp hp2, by rw [List.length_append]; show p.length + 1 + n ≤ 300; omega, by omega, fun Y3 l3 es3 s3 nl3 hl3 hes3 => ?_⟩
        have lg := gone_len n htd (p ++ [((j : Nat) : Int) + 1])
        have les3 := dpAll_len hes3
        rw [List.length_map] at les3
        have tk : (partsD t).take (j + 1) = (partsD t).take j ++ [d] := by
          rw [List.take_add_one, hd]
          rfl
        have kapp : ∀ (i : Nat) (xs : List PyData) (d : PyData), kidsF i p (xs ++ [d]) = kidsF i p xs ++ [(p ++ [((i + xs.length : Nat) : Int) + 1], d)] := by
          intro i xs
          induction xs generalizing i with
          | nil => intro d; rfl
          | cons x xs ih =>
            intro d
            show (p ++ [(i : Int) + 1], x) :: kidsF (i + 1) p (xs ++ [d]) = _
            rw [ih, show i + 1 + xs.length = i + (xs.length + 1) by omega]
            rfl
        have ltk : ((partsD t).take j).length = j := by
          rw [List.length_take, ← dpAll_len hA2]
          omega
        have eg : ((p, t) :: (kidsF 0 p ((partsD t).take (j + 1))).flatMap fun x => goneF n x.1 x.2) = ((p, t) :: (kidsF 0 p ((partsD t).take j)).flatMap fun x => goneF n x.1 x.2) ++ goneF n (p ++ [((j : Nat) : Int) + 1]) d := by
          rw [tk, kapp, ltk, Nat.zero_add, List.flatMap_append]
          show _ = (p, t) :: ((kidsF 0 p ((partsD t).take j)).flatMap fun x => goneF n x.1 x.2) ++ goneF n (p ++ [((j : Nat) : Int) + 1]) d
          simp [List.flatMap]
        have les0 : es.length ≤ 900 := by
          rw [les, List.length_map, List.length_cons]
          have e2 : (kidsF 0 p (partsD t)) = kidsF 0 p ((partsD t).take j) ++ kidsF j p ((partsD t).drop j) := by
            have : ∀ (i : Nat) (xs ys : List PyData), kidsF i p (xs ++ ys) = kidsF i p xs ++ kidsF (i + xs.length) p ys := by
              intro i xs
              induction xs generalizing i with
              | nil => intro ys; rfl
              | cons x xs ih =>
                intro ys
                show (p ++ [(i : Int) + 1], x) :: kidsF (i + 1) p (xs ++ ys) = _
                rw [ih, show i + 1 + xs.length = i + (xs.length + 1) by omega]
                rfl
            have h := this 0 ((partsD t).take j) ((partsD t).drop j)
            rw [List.take_append_drop, ltk, Nat.zero_add] at h
            exact h
          have lg2 : ((p, t) :: (kidsF 0 p (partsD t)).flatMap fun x => goneF n x.1 x.2).length ≤ k := lgone
          rw [e2, List.flatMap_append, List.length_cons, List.length_append] at lg2
          omega
        refine ⟨l, l3, es, es3, rfl, rfl, (s12.trans s3) _ _ hl1, hl3, Nat.le_trans (show _ ≤ 2000 from by omega) (by decide), fun l4 n4 => ?_⟩
        have g4 := same_upd (o := .lst (es ++ es3)) n4
        have s14 := (s12.trans s3).trans g4
        refine ⟨_, _, l4, es ++ es3, rfl, sY1.trans s14, (sY1.trans (s12.trans s3)).free n4, upd_same, ?_, Same.seqT (sY1.trans s14) hS2, by omega⟩
        rw [eg, List.map_append]
        exact dpAll_appI (dpAll_same s14 hes1) (dpAll_same g4 hes3)
      · rintro σ Y ⟨y3, y4, l, es, rfl, sY, nl, hl, hes, _, _⟩
        rw [dpAll_len hA2, List.take_length] at hes
        exact ⟨_, rfl, q Y l es sY nl hl hes⟩
theorem ok_lput (D : Dd K mg "_law_put" s__law_put P__law_put) : ∀ m, C8.Cal P w K mg base (m + 1) "_law_put" (spPut5 K m) [] := by
  intro m
  induction m with
  | zero =>
    refine D.cal sc__law_put (fun vs H Q E h => ?_) (fun f cdv A outer s H vs Q E hr h => ?_)
    · obtain ⟨v, x, rv, t, u, r, s, n, k, rfl, _⟩ := h
      rfl
    · obtain ⟨v, x, rv, t, u, r, p, n, k, rfl, hv, tr, hx, hl, hgo, hrd, q⟩ := h
      have p0 : p = [] := List.eq_nil_of_length_eq_zero (by omega)
      subst p0
      have c_law_put : C8.Cal P w K mg base 0 "_law_put" (fun _ _ _ _ => False) [] := by
        obtain ⟨f, fd, F, g, b⟩ := D.ex
        exact ⟨f, fd, P__law_put, [], ⟨fun vs H Q E h => h.elim, fun B up t G ar ws xs R Z _ _ _ _ h => h.elim⟩, g, F.kp, b, .nil⟩
      refine ⟨_, (pss_cons (ps_if (pt_cmpR (op_eqD hr.units) (pv 1) (pe_tup pa_nil) (nomark _))
            (pss_one (ps_ret (pv 2)))
            pss_nil)
          (pss_cons (ps_par rfl sc__law_put.nd (i := 3) (j := 4) rfl rfl (by decide) rfl rfl (pa_cons (pe_ix ix_tup (pv 0) pe_int (fun _ _ => rfl)) (pa_cons (pe_ix ix_tup (pv 1) pe_int (fun _ _ => rfl)) pa_nil)) (by rfl))
          (pss_one (ps_ret (pe_tup (pa_cons (pe_ix ix_tup (pv 0) pe_int (fun _ _ => rfl)) (pa_cons (pe_ix ix_tup (pv 0) pe_int (fun _ _ => rfl)) (pa_cons (pe_op op_catAny (pe_op op_catAny (pe_slice sl_any (pv 3) po_none (po_some (pe_op op_sub (pv 4) pe_int))) (pe_tup (pa_cons (C8.pe_c c_law_put hr (by omega) (by rfl) (pa_cons (pe_ix ix_tup (pv 3) (pe_op op_sub (pv 4) pe_int) (fun _ _ => rfl)) (pa_cons (pe_slice sl_any (pv 1) (po_some pe_int) po_none) (pa_cons (pv 2) pa_nil)))) pa_nil))) (pe_slice sl_any (pv 3) (po_some (pv 4)) po_none)) pa_nil)))))))), ?_⟩
      obtain ⟨pq, rfl, hpS⟩ := dp_path hx
      refine ⟨_, rfl, by show 0 ≤ sizeLine; decide, fun t0 nt0 => ?_⟩
      have k1 := same_upd (o := .tup []) nt0
      refine ⟨.tuple [], .tuple [], .tup (Same.seqT k1 hpS) .nil, .tup (SqT.of upd_same) .nil, by decide +kernel, by decide +kernel, _, rfl, ?_⟩
      exact ifT rfl ⟨_, rfl, q _ _ k1 (dp_same k1 hrd)⟩
  | succ m c_law_put =>
    refine D.cal sc__law_put (fun vs H Q E h => ?_) (fun f cdv A outer s H vs Q E hr h => ?_)
    · obtain ⟨v, x, rv, t, u, r, s, n, k, rfl, _⟩ := h
      rfl
    · obtain ⟨v, x, rv, t, u, r, p, n, k, rfl, hv, tr, hx, hl, hgo, hrd, q⟩ := h
      refine ⟨_, (pss_cons (ps_if (pt_cmpR (op_eqD hr.units) (pv 1) (pe_tup pa_nil) (nomark _))
            (pss_one (ps_ret (pv 2)))
            pss_nil)
          (pss_cons (ps_par rfl sc__law_put.nd (i := 3) (j := 4) rfl rfl (by decide) rfl rfl (pa_cons (pe_ix ix_tup (pv 0) pe_int (fun _ _ => rfl)) (pa_cons (pe_ix ix_tup (pv 1) pe_int (fun _ _ => rfl)) pa_nil)) (by rfl))
          (pss_one (ps_ret (pe_tup (pa_cons (pe_ix ix_tup (pv 0) pe_int (fun _ _ => rfl)) (pa_cons (pe_ix ix_tup (pv 0) pe_int (fun _ _ => rfl)) (pa_cons (pe_op op_catAny (pe_op op_catAny (pe_slice sl_any (pv 3) po_none (po_some (pe_op op_sub (pv 4) pe_int))) (pe_tup (pa_cons (C8.pe_c c_law_put hr (by omega) (by rfl) (pa_cons (pe_ix ix_tup (pv 3) (pe_op op_sub (pv 4) pe_int) (fun _ _ => rfl)) (pa_cons (pe_slice sl_any (pv 1) (po_some pe_int) po_none) (pa_cons (pv 2) pa_nil)))) pa_nil))) (pe_slice sl_any (pv 3) (po_some (pv 4)) po_none)) pa_nil)))))))), ?_⟩
      obtain ⟨pq, rfl, hpS⟩ := dp_path hx
      refine ⟨_, rfl, by show 0 ≤ sizeLine; decide, fun t0 nt0 => ?_⟩
      have k1 := same_upd (o := .tup []) nt0
      have psh : SeqAt.shaped (pathD p) = true := by
        obtain ⟨g1, g2⟩ := ints_lay p
        unfold SeqAt.shaped
        rw [show PyData.canLay0 (pathD p) = true from g1, decide_eq_true (show PyData.depth (pathD p) ≤ 64 from by
          show PyData.depthAll (p.map PyData.int) + 1 ≤ 64
          omega)]
        rfl
      refine ⟨pathD p, .tuple [], dp_same k1 hx, .tup (SqT.of upd_same) .nil, psh, by decide +kernel, _, rfl, ?_⟩
      cases p with
      | nil => exact ifT rfl ⟨_, rfl, q _ _ k1 (dp_same k1 hrd)⟩
      | cons j s =>
        refine ifF rfl ?_
        obtain ⟨d, hst, hgo2⟩ := go_cons hgo
        obtain ⟨j1, j2, j3⟩ := step_is hst
        obtain ⟨n', k', _, htd⟩ := tr.part hst
        obtain ⟨q1, q2, z, i, us, rfl, hS1, hS2, hA2, hus, hre⟩ := tr_parts tr hv
        have lw := dpAll_len hA2
        obtain ⟨X1, e1⟩ : ∃ X1, X1 = upd H t0 (.tup []) := ⟨_, rfl⟩
        rw [← e1] at k1 ⊢
        have hS1' := Same.seqT k1 hS1
        have hS2' := Same.seqT k1 hS2
        have hpS' := Same.seqT k1 hpS
        refine ⟨_, rfl, q1, _, 2, .ref q2, rfl, rfl, hS1', atI_nat (j := 2) rfl, _, rfl, pq, _, 0, .int j, rfl, rfl, hpS', atI_nat (j := 0) rfl, _, _, rfl, ?_⟩
        refine ⟨_, rfl, q1, _, 0, .str z, rfl, rfl, hS1', atI_nat (j := 0) rfl, _, rfl, q1, _, 1, .int i, rfl, rfl, hS1', atI_nat (j := 1) rfl, ?_⟩
        refine ⟨_, rfl, _, rfl, _, _, rfl, rfl, _, rfl, q2, us, rfl, hS2', fun X2 p2 s2 hp2 => ?_⟩
        have hj : (j - 1).toNat < us.length := by omega
        obtain ⟨wv, hwv, hat⟩ := at_place hj j1
        obtain ⟨d', hd', hwd⟩ := dpAll_at hA2 hwv
        have ed : d' = d := by
          rw [j3] at hd'
          exact (Option.some.inj hd').symm
        subst ed
        have s12 := k1.trans s2
        refine ⟨_, rfl, _, rfl, _, _, rfl, rfl, q2, us, _, wv, rfl, rfl, Same.seqT s12 hS2, hat, ?_⟩
        refine ⟨_, rfl, _, rfl, pq, _, rfl, Same.seqT s12 hpS, fun X3 p3 s3 hp3 => ?_⟩
        have hp3 : SqT K X3 p3 (s.map V.int) := by
          have e := cutV_from ((j :: s).map V.int) 1
          have hp3 : SqT K X3 p3 (cutV ((j :: s).map V.int) (some ((1 : Nat) : Int)) none) := hp3
          rw [e] at hp3
          exact hp3
        have s13 := s12.trans s3
        have hp3d := path_dp hp3
        refine ⟨_, rfl, wv, .ref p3, rv, d', u, r, s, n', k', rfl, dp_same s13 hwd, htd, hp3d, by rw [List.length_cons] at hl; omega, hgo2, dp_same s13 hrd, fun X4 uv s4 huv => ?_⟩
        refine ⟨by show 1 ≤ sizeLine; decide, fun p5 n5 => ?_⟩
        have s5 := same_upd (o := .tup [uv]) n5
        have hc1 := cut_len us none (some (j - 1))
        have hc2 := cut_len us (some j) none
        refine ⟨p2, p5, _, [uv], rfl, rfl, Same.seqT ((s3.trans s4).trans s5) hp2, SqT.of upd_same, Nat.le_trans (show _ ≤ 3 from by
          show (cutV us none (some (j - 1))).length + 1 ≤ 3
          omega) (by decide), fun H6 p6 s6 hp6 => ?_⟩
        have s46 := (s4.trans s5).trans s6
        refine ⟨_, rfl, _, rfl, _, rfl, q2, us, rfl, Same.seqT (s13.trans s46) hS2, fun H7 p7 s7 hp7 => ?_⟩
        refine ⟨p6, p7, _, _, rfl, rfl, Same.seqT s7 hp6, hp7, Nat.le_trans (show _ ≤ 5 from by
          rw [List.length_append]
          show (cutV us none (some (j - 1))).length + 1 + (cutV us (some j) none).length ≤ 5
          omega) (by decide), fun H8 p8 s8 hp8 => ?_⟩
        refine ⟨by show 3 ≤ sizeLine; decide, fun p9 n9 => ?_⟩
        have s9 := same_upd (o := .tup [.str z, .int i, .ref p8]) n9
        have s49 := ((s46.trans s7).trans s8).trans s9
        refine q _ _ (s13.trans s49) ?_
        show Dp K _ (.ref p9) (reD t (setP (partsD t) j (putD ((partsD t).getD (j - 1).toNat .none) s r)))
        rw [getD_at j3, hre]
        refine .tup (SqT.of upd_same) (.cons (.str _) (.cons (.int _) (.cons (.tup (Same.seqT s9 hp8) ?_) .nil)))
        have e1 : cutV us none (some (j - 1)) = us.take (j - 1).toNat := by
          have := cutV_to us (j - 1).toNat
          rw [show (((j - 1).toNat : Nat) : Int) = j - 1 by omega] at this
          exact this
        have e2 : cutV us (some j) none = us.drop j.toNat := by
          have := cutV_from us j.toNat
          rw [show ((j.toNat : Nat) : Int) = j by omega] at this
          exact this
        rw [e1, e2]
        unfold setP
        have hA9 := dpAll_same (s13.trans s49) hA2
        exact dpAll_appI (dpAll_appI (dpAll_take _ hA9) (.cons (dp_same (((s5.trans s6).trans s7).trans (s8.trans s9)) huv) .nil)) (dpAll_drop _ hA9)
end
theorem allTrue (n : Nat) : (List.replicate n true).all id = true := by
  rw [List.all_eq_true]
  intro x hx
  rw [List.eq_of_mem_replicate hx]
  rfl
abbrev s__law_same : Stmt := top 68
abbrev N__law_same : List Str := ["_law_found", "_law_due", "_law_one", "_law_other"]
abbrev P__law_same : List Str := ["_law_found", "_law_due"]
theorem sc__law_same : FnScope N__law_same P__law_same (defScope s__law_same) := ⟨rfl, rfl, rfl, by decide +kernel, rfl, by decide +kernel, by decide +kernel⟩
structure Sa (mg : Str → Option Value) : Prop where
  isinstance : mg "isinstance" = none
  list : mg "list" = none
  tuple : mg "tuple" = none
  bool : mg "bool" = none
  str : mg "str" = none
  int : mg "int" = none
  len : mg "len" = none
  zip : mg "zip" = none
  all : mg "all" = none
  range : mg "range" = none
theorem walk_zipT {K : PySem.W.Frag} {a b : Addr} {xs ys : List V} {n : Nat} (hn : n = min xs.length ys.length) : Walk (RZ.ItzT K a b) n (fun H => SqT K H a xs ∧ SqT K H b ys) (YPair (fun i => xs[i]?) (fun i => ys[i]?)) := by
  subst hn
  refine ⟨fun i _ hi q => ?_, fun _ q => ⟨xs, ys, q.1, q.2, by omega⟩, fun i H v H' _ q y => ?_⟩
  · have h1 : i < xs.length := by omega
    have h2 : i < ys.length := by omega
    exact ⟨xs, ys, xs[i], ys[i], q.1, q.2, by simp [h1], by simp [h2]⟩
  · obtain ⟨T, x, z, h1, h2, h3, h4, h5⟩ := y
    exact ⟨T, x, z, h1, h2, h3, h4 xs q.1, h5 ys q.2⟩
def spSame (K : PySem.W.Frag) (n : Nat) : Sp := fun vs H Q _ => ∃ (x y : V) (d : PyData), vs = [x, y] ∧ Dp K H x d ∧ Dp K H y d ∧ Sm n d ∧ ∀ H', Same H H' → Q (.bl true) H'
section
variable {P : Program} {w : World} {K : PySem.W.Frag} {mg : Str → Option Value} {base : Heap}
theorem same_non (T : Sa mg) (f : Addr) (cdv : Value) (A : Around) (outer : List Env) (s : Shared) (H : Hp) (Q : VK) (E : XK) (q : ∀ H', Same H H' → Q (.bl true) H') :
    ∃ t, PSs (cxOf CX0 P w K mg base N__law_same "_law_same" (defScope s__law_same) f cdv A outer s H E).nox (defBody s__law_same) t ∧ t { nx := fun _ H' => Q .non H', rt := Q } (start N__law_same [.non, .non]) H := by
  refine ⟨_, (pss_cons (ps_if (pt_val (pe_callB call_isiT (by rfl) T.isinstance (by decide +kernel) (pa_cons (pv 1) (pa_cons (pe_tup (pa_cons (pe_bltn (v := .ty "list") rfl T.list (by decide +kernel) rfl) (pa_cons (pe_bltn (v := .ty "tuple") rfl T.tuple (by decide +kernel) rfl) pa_nil))) pa_nil))))
      (pss_cons ps_never (pss_one ps_never)) pss_nil)
    (pss_cons (ps_if (PW.pt (pw_or (pt_cmpR op_isN (pv 1) pe_non (nomark _)) (pw_or1 (pt_cmpR op_isN (pv 0) pe_non (nomark _)))))
      (pss_one (ps_ret (pe_and (pe_cmpR op_isN (pv 1) pe_non (nomark _)) (pe_one (pe_cmpR op_isN (pv 0) pe_non (nomark _))))))
      pss_nil) (pss_cons ps_never (pss_one ps_never)))), ?_⟩
  refine ⟨_, rfl, by show 2 ≤ sizeLine; decide, fun tp nt => ?_⟩
  refine ⟨.non, tp, _, .type "NoneType", [.type "list", .type "tuple"], false, rfl, upd_same, .cons (.ty "list") (.cons (.ty "tuple") .nil), .base .non, kitLT (by decide +kernel) (fun _ => by decide +kernel), _, rfl, iteF ?_⟩
  refine ⟨_, rfl, rfl, _, rfl, ifT (decide_eq_true rfl) (iteT ?_)⟩
  refine ⟨_, rfl, rfl, _, rfl, ifT (decide_eq_true rfl) ?_⟩
  refine ⟨_, rfl, rfl, ?_⟩
  rw [decide_eq_true rfl]
  exact q _ (same_upd nt)
theorem same_atom (T : Sa mg) (f : Addr) (cdv : Value) (A : Around) (outer : List Env) (s : Shared) (H : Hp) (Q : VK) (E : XK) {x : V} {t : String} (ty : ∀ H', TyX K H' x (.type t)) (nx : x ≠ .non) (k1 : kitB t "list" = some false) (k2 : kitB t "tuple" = some false)
    (kk : (kitB t "bool" = some true) ∨ (kitB t "bool" = some false ∧ kitB t "str" = some true) ∨ (kitB t "bool" = some false ∧ kitB t "str" = some false ∧ kitB t "int" = some true)) (sc : scal x x = true) (q : ∀ H', Same H H' → Q (.bl true) H') :
    ∃ t, PSs (cxOf CX0 P w K mg base N__law_same "_law_same" (defScope s__law_same) f cdv A outer s H E).nox (defBody s__law_same) t ∧ t { nx := fun _ H' => Q .non H', rt := Q } (start N__law_same [x, x]) H := by
  refine ⟨_, (pss_cons (ps_if (pt_val (pe_callB call_isiT (by rfl) T.isinstance (by decide +kernel) (pa_cons (pv 1) (pa_cons (pe_tup (pa_cons (pe_bltn (v := .ty "list") rfl T.list (by decide +kernel) rfl) (pa_cons (pe_bltn (v := .ty "tuple") rfl T.tuple (by decide +kernel) rfl) pa_nil))) pa_nil))))
      (pss_cons ps_never (pss_one ps_never)) pss_nil)
    (pss_cons (ps_if (PW.pt (pw_or (pt_cmpR op_isN (pv 1) pe_non (nomark _)) (pw_or1 (pt_cmpR op_isN (pv 0) pe_non (nomark _)))))
      (pss_one ps_never) pss_nil)
    (pss_cons (ps_if (PW.pt (pw_or (pt_val (pe_callB call_isi (by rfl) T.isinstance (by decide +kernel) (pa_cons (pv 1) (pa_cons (pe_bltn (v := .ty "bool") rfl T.bool (by decide +kernel) rfl) pa_nil)))) (pw_or1 (pt_val (pe_callB call_isi (by rfl) T.isinstance (by decide +kernel) (pa_cons (pv 1) (pa_cons (pe_bltn (v := .ty "str") rfl T.str (by decide +kernel) rfl) pa_nil)))))))
      (pss_one (ps_ret (pe_and (pe_cmpR op_eq (pe_callB call_isi (by rfl) T.isinstance (by decide +kernel) (pa_cons (pv 0) (pa_cons (pe_bltn (v := .ty "bool") rfl T.bool (by decide +kernel) rfl) pa_nil))) (pe_callB call_isi (by rfl) T.isinstance (by decide +kernel) (pa_cons (pv 1) (pa_cons (pe_bltn (v := .ty "bool") rfl T.bool (by decide +kernel) rfl) pa_nil))) (nomark _)) (pe_one (pe_cmpR op_eq (pv 0) (pv 1) (nomark _))))))
      pss_nil)
    (pss_one (ps_ret (pe_and (pe_callB call_isi (by rfl) T.isinstance (by decide +kernel) (pa_cons (pv 0) (pa_cons (pe_bltn (v := .ty "int") rfl T.int (by decide +kernel) rfl) pa_nil))) (pe_and (pe_not (pe_callB call_isi (by rfl) T.isinstance (by decide +kernel) (pa_cons (pv 0) (pa_cons (pe_bltn (v := .ty "bool") rfl T.bool (by decide +kernel) rfl) pa_nil)))) (pe_one (pe_cmpR op_eq (pv 0) (pv 1) (nomark _)))))))))), ?_⟩
  refine ⟨_, rfl, by show 2 ≤ sizeLine; decide, fun tp nt => ?_⟩
  refine ⟨x, tp, _, .type t, [.type "list", .type "tuple"], false, rfl, upd_same, .cons (.ty "list") (.cons (.ty "tuple") .nil), ty _, kitLT k1 (fun _ => k2), _, rfl, iteF ?_⟩
  refine ⟨_, rfl, rfl, _, rfl, ifF (decide_eq_false nx) ?_⟩
  refine ⟨_, rfl, rfl, _, rfl, ifF (decide_eq_false nx) ?_⟩
  rcases kk with kb | ⟨kb, ks⟩ | ⟨kb, ks, ki⟩
  · refine ⟨_, rfl, x, .ty "bool", .type t, .type "bool", true, rfl, .ty "bool", ty _, kit_ty kb, _, rfl, iteT (iteT ?_)⟩
    refine ⟨_, rfl, x, .ty "bool", .type t, .type "bool", true, rfl, .ty "bool", ty _, kit_ty kb, ?_⟩
    refine ⟨_, rfl, x, .ty "bool", .type t, .type "bool", true, rfl, .ty "bool", ty _, kit_ty kb, ?_⟩
    refine ⟨rfl, _, rfl, ifT (decide_eq_true rfl) ?_⟩
    refine ⟨_, rfl, _, rfl, sc, ?_⟩
    rw [decide_eq_true rfl]
    exact q _ (same_upd nt)
  · refine ⟨_, rfl, x, .ty "bool", .type t, .type "bool", false, rfl, .ty "bool", ty _, kit_ty kb, _, rfl, iteF ?_⟩
    refine ⟨_, rfl, x, .ty "str", .type t, .type "str", true, rfl, .ty "str", ty _, kit_ty ks, _, rfl, iteT ?_⟩
    refine ⟨_, rfl, x, .ty "bool", .type t, .type "bool", false, rfl, .ty "bool", ty _, kit_ty kb, ?_⟩
    refine ⟨_, rfl, x, .ty "bool", .type t, .type "bool", false, rfl, .ty "bool", ty _, kit_ty kb, ?_⟩
    refine ⟨rfl, _, rfl, ifT (decide_eq_true rfl) ?_⟩
    refine ⟨_, rfl, _, rfl, sc, ?_⟩
    rw [decide_eq_true rfl]
    exact q _ (same_upd nt)
  · refine ⟨_, rfl, x, .ty "bool", .type t, .type "bool", false, rfl, .ty "bool", ty _, kit_ty kb, _, rfl, iteF ?_⟩
    refine ⟨_, rfl, x, .ty "str", .type t, .type "str", false, rfl, .ty "str", ty _, kit_ty ks, _, rfl, iteF ?_⟩
    refine ⟨_, rfl, x, .ty "int", .type t, .type "int", true, rfl, .ty "int", ty _, kit_ty ki, _, rfl, iteT ?_⟩
    refine ⟨_, rfl, x, .ty "bool", .type t, .type "bool", false, rfl, .ty "bool", ty _, kit_ty kb, _, rfl, _, rfl, iteT ?_⟩
    refine ⟨_, rfl, _, rfl, sc, ?_⟩
    rw [decide_eq_true rfl]
    exact q _ (same_upd nt)
theorem ok_same (T : Sa mg) (D : Dd K mg "_law_same" s__law_same P__law_same) : ∀ n, C8.Cal P w K mg base (n + 1) "_law_same" (spSame K n) [] := by
  intro n
  induction n with
  | zero =>
    refine D.cal sc__law_same (fun vs H Q E h => ?_) (fun f cdv A outer s H vs Q E hr h => ?_)
    · obtain ⟨x, y, d, rfl, _⟩ := h
      rfl
    · obtain ⟨x, y, d, rfl, hx, hy, hs, q⟩ := h
      cases hs with
      | non => cases hx; cases hy; exact same_non T f cdv A outer s H Q E q
      | bl _ b => cases hx; cases hy; exact same_atom T f cdv A outer s H Q E (fun _ => .base (.bl b)) (fun z => nomatch z) (by decide +kernel) (by decide +kernel) (.inl (by decide +kernel)) rfl q
      | int _ i => cases hx; cases hy; exact same_atom T f cdv A outer s H Q E (fun _ => .base (.int i)) (fun z => nomatch z) (by decide +kernel) (by decide +kernel) (.inr (.inr ⟨by decide +kernel, by decide +kernel, by decide +kernel⟩)) rfl q
      | str _ z => cases hx; cases hy; exact same_atom T f cdv A outer s H Q E (fun _ => .base (.str z)) (fun z => nomatch z) (by decide +kernel) (by decide +kernel) (.inr (.inl ⟨by decide +kernel, by decide +kernel⟩)) rfl q
  | succ n c_law_same =>
    refine D.cal sc__law_same (fun vs H Q E h => ?_) (fun f cdv A outer s H vs Q E hr h => ?_)
    · obtain ⟨x, y, d, rfl, _⟩ := h
      rfl
    · obtain ⟨x, y, d, rfl, hx, hy, hs, q⟩ := h
      cases hs with
      | non => cases hx; cases hy; exact same_non T f cdv A outer s H Q E q
      | bl _ b => cases hx; cases hy; exact same_atom T f cdv A outer s H Q E (fun _ => .base (.bl b)) (fun z => nomatch z) (by decide +kernel) (by decide +kernel) (.inl (by decide +kernel)) rfl q
      | int _ i => cases hx; cases hy; exact same_atom T f cdv A outer s H Q E (fun _ => .base (.int i)) (fun z => nomatch z) (by decide +kernel) (by decide +kernel) (.inr (.inr ⟨by decide +kernel, by decide +kernel, by decide +kernel⟩)) rfl q
      | str _ z => cases hx; cases hy; exact same_atom T f cdv A outer s H Q E (fun _ => .base (.str z)) (fun z => nomatch z) (by decide +kernel) (by decide +kernel) (.inr (.inl ⟨by decide +kernel, by decide +kernel⟩)) rfl q
      | lst _ hlen hall =>
        rename_i ds
        cases hx with
        | lst hS hd =>
          rename_i a xs
          cases hy with
          | lst hS2 hd2 =>
            rename_i b ys
            refine ⟨_, (pss_cons (ps_if (pt_val (pe_callB call_isiT (by rfl) T.isinstance (by decide +kernel) (pa_cons (pv 1) (pa_cons (pe_tup (pa_cons (pe_bltn (v := .ty "list") rfl T.list (by decide +kernel) rfl) (pa_cons (pe_bltn (v := .ty "tuple") rfl T.tuple (by decide +kernel) rfl) pa_nil))) pa_nil))))
      (pss_cons (ps_if (PW.pt (pw_or (pt_cmpR op_ne (pe_callB call_isi (by rfl) T.isinstance (by decide +kernel) (pa_cons (pv 0) (pa_cons (pe_bltn (v := .ty "list") rfl T.list (by decide +kernel) rfl) pa_nil))) (pe_callB call_isi (by rfl) T.isinstance (by decide +kernel) (pa_cons (pv 1) (pa_cons (pe_bltn (v := .ty "list") rfl T.list (by decide +kernel) rfl) pa_nil))) (nomark _)) (pw_or1 (pt_cmpR op_ne (pe_callB call_isi (by rfl) T.isinstance (by decide +kernel) (pa_cons (pv 0) (pa_cons (pe_bltn (v := .ty "tuple") rfl T.tuple (by decide +kernel) rfl) pa_nil))) (pe_callB call_isi (by rfl) T.isinstance (by decide +kernel) (pa_cons (pv 1) (pa_cons (pe_bltn (v := .ty "tuple") rfl T.tuple (by decide +kernel) rfl) pa_nil))) (nomark _)))))
      (pss_one ps_never)
      pss_nil)
    (pss_one (ps_ret (pe_and (pe_cmpR op_eq (pe_callB call_len_seq (by rfl) T.len PySem.boot_len (pa_cons (pv 0) pa_nil)) (pe_callB call_len_seq (by rfl) T.len PySem.boot_len (pa_cons (pv 1) pa_nil)) (nomark _)) (pe_one (pe_callB (cr_all rfl) (by rfl) T.all (by decide +kernel) (pa_cons (pe_lc (g := gTup K 2 (gCons (gName 2) (gCons (gName 3) gNil))) (own := [("_law_one", 2), ("_law_other", 3)]) (by exact rfl) sc__law_same.nd (RZ.pi_zipA (by rfl) T.zip (pa_cons (pv 0) (pa_cons (pv 1) pa_nil))) (blkOk_by (own := [("_law_one", 2), ("_law_other", 3)]) (N := N__law_same) (sc := defScope s__law_same) (by decide +kernel)) (fun _ _ _ _ _ => (pg_tup (n := 2) rfl (pgs_cons (pg_name (i := 2) sc__law_same.nd rfl (Or.inl rfl) (Or.inr rfl)) (pgs_cons (pg_name (i := 3) sc__law_same.nd rfl (Or.inl rfl) (Or.inr rfl)) pgs_nil)))) (fun _ _ _ _ _ => pts_nil) (fun _ _ _ _ _ => (C8.pe_c c_law_same hr (by omega) (by rfl) (pa_cons (pv 2) (pa_cons (pv 3) pa_nil))))) pa_nil)))))))
      pss_nil)
    (pss_cons ps_never (pss_cons ps_never (pss_one ps_never)))), ?_⟩
            have lx := dpAll_len hd
            have ly := dpAll_len hd2
            refine ⟨_, rfl, by show 2 ≤ sizeLine; decide, fun tp nt => ?_⟩
            have s1 := same_upd (o := .tup [.ty "list", .ty "tuple"]) nt
            have h1 := Same.seqL s1 hS
            have h2 := Same.seqL s1 hS2
            refine ⟨.ref b, tp, _, .type "list", [.type "list", .type "tuple"], true, rfl, upd_same, .cons (.ty "list") (.cons (.ty "tuple") .nil), tyL h2, kitLT (by decide +kernel) (fun e => nomatch e), _, rfl, iteT ?_⟩
            refine ⟨_, rfl, .ref a, .ty "list", .type "list", .type "list", true, rfl, .ty "list", tyL h1, kit_ty (by decide +kernel), ?_⟩
            refine ⟨_, rfl, .ref b, .ty "list", .type "list", .type "list", true, rfl, .ty "list", tyL h2, kit_ty (by decide +kernel), rfl, _, rfl, iteF ?_⟩
            refine ⟨_, rfl, .ref a, .ty "tuple", .type "list", .type "tuple", false, rfl, .ty "tuple", tyL h1, kit_ty (by decide +kernel), ?_⟩
            refine ⟨_, rfl, .ref b, .ty "tuple", .type "list", .type "tuple", false, rfl, .ty "tuple", tyL h2, kit_ty (by decide +kernel), rfl, _, rfl, iteF ?_⟩
            refine ⟨_, rfl, a, xs, rfl, .inl h1, ?_⟩
            refine ⟨_, rfl, b, ys, rfl, .inl h2, rfl, _, rfl, ifT (by rw [lx, ly]; exact decide_eq_true rfl) ?_⟩
            refine ⟨_, rfl, _, rfl, a, b, xs, ys, rfl, .inl ⟨h1, h2, fun D nD => ?_⟩⟩
            refine lc_it (walk_zip (K := K) (a := a) (b := b) (xs := xs) (ys := ys) rfl) (fun j H' => Same H H' ∧ H' D = some (.lst ((List.replicate j true).map V.bl)))
              ⟨Same.trans s1 (same_upd nD), upd_same⟩ (fun j H' _ h => ⟨Same.seqL h.1 hS, Same.seqL h.1 hS2⟩) ?_ ?_
            · rintro j v H3 H4 hj ⟨sm, hD⟩ ⟨U, x, y, rfl, nU, rfl, ex, ey⟩
              obtain ⟨d1, e1, g1⟩ := dpAll_at hd ex
              obtain ⟨d2, e2, g2⟩ := dpAll_at hd2 ey
              rw [e1] at e2
              cases e2
              have sU : Same H3 (upd H3 U (.tup [x, y])) := same_upd nU
              have s5 := sm.trans sU
              refine ⟨U, _, rfl, SqT.of upd_same, rfl, _, _, rfl, _, _, rfl, rfl, ?_⟩
              refine ⟨rfl, yesT ?_⟩
              refine ⟨_, rfl, _, rfl, x, y, d1, rfl, dp_same s5 g1, dp_same s5 g2, hall d1 (List.mem_of_getElem? e1), fun H6 s6 => ?_⟩
              refine ⟨_, s6 _ _ (sU _ _ hD), by rw [List.length_map, List.length_replicate]; exact small1000 (by omega), Same.at_ (s5.trans s6) (s1.free nD), ?_⟩
              rw [upd_same, List.replicate_succ', List.map_append]
              rfl
            · rintro H6 ⟨s6, hD⟩
              refine ⟨D, _, rfl, SqL.of hD, ?_⟩
              rw [allTrue]
              exact q H6 s6
      | tup _ hlen hall =>
        rename_i ds
        cases hx with
        | tup hS hd =>
          rename_i a xs
          cases hy with
          | tup hS2 hd2 =>
            rename_i b ys
            refine ⟨_, (pss_cons (ps_if (pt_val (pe_callB call_isiT (by rfl) T.isinstance (by decide +kernel) (pa_cons (pv 1) (pa_cons (pe_tup (pa_cons (pe_bltn (v := .ty "list") rfl T.list (by decide +kernel) rfl) (pa_cons (pe_bltn (v := .ty "tuple") rfl T.tuple (by decide +kernel) rfl) pa_nil))) pa_nil))))
      (pss_cons (ps_if (PW.pt (pw_or (pt_cmpR op_ne (pe_callB call_isi (by rfl) T.isinstance (by decide +kernel) (pa_cons (pv 0) (pa_cons (pe_bltn (v := .ty "list") rfl T.list (by decide +kernel) rfl) pa_nil))) (pe_callB call_isi (by rfl) T.isinstance (by decide +kernel) (pa_cons (pv 1) (pa_cons (pe_bltn (v := .ty "list") rfl T.list (by decide +kernel) rfl) pa_nil))) (nomark _)) (pw_or1 (pt_cmpR op_ne (pe_callB call_isi (by rfl) T.isinstance (by decide +kernel) (pa_cons (pv 0) (pa_cons (pe_bltn (v := .ty "tuple") rfl T.tuple (by decide +kernel) rfl) pa_nil))) (pe_callB call_isi (by rfl) T.isinstance (by decide +kernel) (pa_cons (pv 1) (pa_cons (pe_bltn (v := .ty "tuple") rfl T.tuple (by decide +kernel) rfl) pa_nil))) (nomark _)))))
      (pss_one ps_never)
      pss_nil)
    (pss_one (ps_ret (pe_and (pe_cmpR op_eq (pe_callB call_len_seq (by rfl) T.len PySem.boot_len (pa_cons (pv 0) pa_nil)) (pe_callB call_len_seq (by rfl) T.len PySem.boot_len (pa_cons (pv 1) pa_nil)) (nomark _)) (pe_one (pe_callB (cr_all rfl) (by rfl) T.all (by decide +kernel) (pa_cons (pe_lc (g := gTup K 2 (gCons (gName 2) (gCons (gName 3) gNil))) (own := [("_law_one", 2), ("_law_other", 3)]) (by exact rfl) sc__law_same.nd (RZ.pi_zipA (by rfl) T.zip (pa_cons (pv 0) (pa_cons (pv 1) pa_nil))) (blkOk_by (own := [("_law_one", 2), ("_law_other", 3)]) (N := N__law_same) (sc := defScope s__law_same) (by decide +kernel)) (fun _ _ _ _ _ => (pg_tup (n := 2) rfl (pgs_cons (pg_name (i := 2) sc__law_same.nd rfl (Or.inl rfl) (Or.inr rfl)) (pgs_cons (pg_name (i := 3) sc__law_same.nd rfl (Or.inl rfl) (Or.inr rfl)) pgs_nil)))) (fun _ _ _ _ _ => pts_nil) (fun _ _ _ _ _ => (C8.pe_c c_law_same hr (by omega) (by rfl) (pa_cons (pv 2) (pa_cons (pv 3) pa_nil))))) pa_nil)))))))
      pss_nil)
    (pss_cons ps_never (pss_cons ps_never (pss_one ps_never)))), ?_⟩
            have lx := dpAll_len hd
            have ly := dpAll_len hd2
            refine ⟨_, rfl, by show 2 ≤ sizeLine; decide, fun tp nt => ?_⟩
            have s1 := same_upd (o := .tup [.ty "list", .ty "tuple"]) nt
            have h1 := Same.seqT s1 hS
            have h2 := Same.seqT s1 hS2
            refine ⟨.ref b, tp, _, .type "tuple", [.type "list", .type "tuple"], true, rfl, upd_same, .cons (.ty "list") (.cons (.ty "tuple") .nil), tyT h2, kitLT2, _, rfl, iteT ?_⟩
            refine ⟨_, rfl, .ref a, .ty "list", .type "tuple", .type "list", false, rfl, .ty "list", tyT h1, kit_ty (by decide +kernel), ?_⟩
            refine ⟨_, rfl, .ref b, .ty "list", .type "tuple", .type "list", false, rfl, .ty "list", tyT h2, kit_ty (by decide +kernel), rfl, _, rfl, iteF ?_⟩
            refine ⟨_, rfl, .ref a, .ty "tuple", .type "tuple", .type "tuple", true, rfl, .ty "tuple", tyT h1, kit_ty (by decide +kernel), ?_⟩
            refine ⟨_, rfl, .ref b, .ty "tuple", .type "tuple", .type "tuple", true, rfl, .ty "tuple", tyT h2, kit_ty (by decide +kernel), rfl, _, rfl, iteF ?_⟩
            refine ⟨_, rfl, a, xs, rfl, .inr h1, ?_⟩
            refine ⟨_, rfl, b, ys, rfl, .inr h2, rfl, _, rfl, ifT (by rw [lx, ly]; exact decide_eq_true rfl) ?_⟩
            refine ⟨_, rfl, _, rfl, a, b, xs, ys, rfl, .inr ⟨h1, h2, fun D nD => ?_⟩⟩
            refine lc_it (walk_zipT (K := K) (a := a) (b := b) (xs := xs) (ys := ys) rfl) (fun j H' => Same H H' ∧ H' D = some (.lst ((List.replicate j true).map V.bl)))
              ⟨Same.trans s1 (same_upd nD), upd_same⟩ (fun j H' _ h => ⟨Same.seqT h.1 hS, Same.seqT h.1 hS2⟩) ?_ ?_
            · rintro j v H3 H4 hj ⟨sm, hD⟩ ⟨U, x, y, rfl, nU, rfl, ex, ey⟩
              obtain ⟨d1, e1, g1⟩ := dpAll_at hd ex
              obtain ⟨d2, e2, g2⟩ := dpAll_at hd2 ey
              rw [e1] at e2
              cases e2
              have sU : Same H3 (upd H3 U (.tup [x, y])) := same_upd nU
              have s5 := sm.trans sU
              refine ⟨U, _, rfl, SqT.of upd_same, rfl, _, _, rfl, _, _, rfl, rfl, ?_⟩
              refine ⟨rfl, yesT ?_⟩
              refine ⟨_, rfl, _, rfl, x, y, d1, rfl, dp_same s5 g1, dp_same s5 g2, hall d1 (List.mem_of_getElem? e1), fun H6 s6 => ?_⟩
              refine ⟨_, s6 _ _ (sU _ _ hD), by rw [List.length_map, List.length_replicate]; exact small1000 (by omega), Same.at_ (s5.trans s6) (s1.free nD), ?_⟩
              rw [upd_same, List.replicate_succ', List.map_append]
              rfl
            · rintro H6 ⟨s6, hD⟩
              refine ⟨D, _, rfl, SqL.of hD, ?_⟩
              rw [allTrue]
              exact q H6 s6
end
/-! ### texts of data, how long at most -/
theorem textFrom_le : ∀ (ts : List Str) (k : Nat) (acc : Str), (textFrom k acc ts).length ≤ acc.length + piled ts
  | [], k, acc => by
    rw [piled_nil]
    exact Nat.le_refl _
  | t :: r, k, acc => by
    have ih := textFrom_le r (k + 1) (acc ++ (if k > 0 then ", " else "" : String) ++ t)
    have e2 : ((", " : String) : Str).length = 2 := rfl
    have e0 : (("" : String) : Str).length = 0 := rfl
    have e : (acc ++ (if k > 0 then ", " else "" : String) ++ t).length ≤ acc.length + 2 + t.length := by
      rw [strLen_append, strLen_append]
      by_cases h : k > 0
      · rw [if_pos h, e2]
        exact Nat.le_refl _
      · rw [if_neg h, e0]
        omega
    rw [piled_cons]
    exact Nat.le_trans ih (by omega)
theorem listText_le (ts : List Str) : (listText ts).length ≤ piled ts + 2 := by
  unfold listText
  rw [strLen_append]
  have h := textFrom_le ts 0 "["
  have e1 : (("[" : String) : Str).length = 1 := rfl
  have e2 : (("]" : String) : Str).length = 1 := rfl
  rw [e1] at h
  rw [e2]
  omega
theorem tupleText_le (ts : List Str) : (tupleText ts).length ≤ piled ts + 3 := by
  unfold tupleText
  rw [strLen_append, strLen_append]
  have e1 : (("(" : String) : Str).length = 1 := rfl
  have e2 : ((if ts.length == 1 then ",)" else ")" : String) : Str).length ≤ 2 := by
    by_cases h : (ts.length == 1) = true
    · rw [if_pos h]
      decide
    · rw [if_neg h]
      decide
  rw [e1]
  cases ts with
  | nil =>
    have e3 : (Str.join ", " []).length = 0 := rfl
    rw [e3]
    omega
  | cons t r =>
    have := join_length_add (t :: r) (by simp)
    omega
/-! ### what is a tree, by the program and by the law -/
abbrev s_is_tree : Stmt := top 16
abbrev N_is_tree : List Str := ["grammar", "thing", "sort", "making", "own", "parts", "form", "part", "due"]
abbrev P_is_tree : List Str := ["grammar", "thing", "sort"]
theorem sc_is_tree : FnScope N_is_tree P_is_tree (defScope s_is_tree) := ⟨rfl, rfl, rfl, by decide +kernel, rfl, by decide +kernel, by decide +kernel⟩
abbrev s__law_is : Stmt := top 71
abbrev N__law_is : List Str := ["_law_g", "_law_thing", "_law_due", "_law_made_here", "_law_places", "_law_part", "_law_place"]
abbrev P__law_is : List Str := ["_law_g", "_law_thing", "_law_due"]
theorem sc__law_is : FnScope N__law_is P__law_is (defScope s__law_is) := ⟨rfl, rfl, rfl, by decide +kernel, rfl, by decide +kernel, by decide +kernel⟩
def dueV : Option Str → V
  | none => .non
  | some z => .str z
def dueB : Option Str → Str → Bool
  | none, _ => true
  | some z, s => decide (z = s)
def tupD : PyData → List PyData
  | .tuple ds => ds
  | _ => []
def allZ (f : Option Str → PyData → Bool) : List PyData → List (List Nat) → Bool
  | d :: ds, k :: ks => f (some (SX.S k)) d && allZ f ds ks
  | _, _ => true
def mOf (ms : List MRow) : PyData → Option MRow
  | .str z => ms.find? fun m => decide (SX.S m.nm = z)
  | _ => none
def nodeB (ms : List MRow) (f : Option Str → PyData → Bool) (due : Option Str) : PyData → Bool
  | .tuple [d0, d1, d2] => match mOf ms d0 with
    | some m => worthB d1 && (tupN m.pt.length d2 && (dueB due (SX.S m.so) && allZ f (tupD d2) m.pt))
    | none => false
  | _ => false
def isTr (ms : List MRow) : Nat → Option Str → PyData → Bool
  | 0, _, _ => false
  | n + 1, due, d => nodeB ms (isTr ms n) due d
theorem mOf_some {ms : List MRow} {d : PyData} {m : MRow} (h : mOf ms d = some m) : m ∈ ms ∧ d = strD m.nm := by
  cases d with
  | str z =>
    have h : ms.find? (fun m => decide (SX.S m.nm = z)) = some m := h
    have e := List.find?_some h
    exact ⟨List.mem_of_find?_eq_some h, by rw [← of_decide_eq_true e]; rfl⟩
  | _ => cases h
theorem mOf_none {ms : List MRow} {d : PyData} (h : mOf ms d = none) : ∀ m ∈ ms, d ≠ strD m.nm := fun m hm e => by
  subst e
  have h : ms.find? (fun m' => decide (SX.S m'.nm = SX.S m.nm)) = none := h
  have := List.find?_eq_none.mp h m hm
  exact this (decide_eq_true rfl)
theorem node_not3 {ms : List MRow} {f : Option Str → PyData → Bool} {due : Option Str} {d : PyData} (h : tupN 3 d = false) : nodeB ms f due d = false := by
  unfold nodeB
  split
  · cases h
  · rfl
/-- the parts of a tuple of three -/
theorem three {K : PySem.W.Frag} {H : Hp} {v : V} {d : PyData} (hd : Dp K H v d) (h : tupN 3 d = true) : ∃ q v0 v1 v2 d0 d1 d2, v = .ref q ∧ d = .tuple [d0, d1, d2] ∧ SqT K H q [v0, v1, v2] ∧ Dp K H v0 d0 ∧ Dp K H v1 d1 ∧ Dp K H v2 d2 := by
  cases hd with
  | tup hS hA =>
    rename_i q xs ds
    have hl : ds.length = 3 := of_decide_eq_true h
    match ds, hl with
    | [d0, d1, d2], _ =>
      cases hA with
      | cons a0 hA =>
        cases hA with
        | cons a1 hA =>
          cases hA with
          | cons a2 hA =>
            cases hA
            exact ⟨q, _, _, _, d0, d1, d2, rfl, rfl, hS, a0, a1, a2⟩
  | _ => cases h
theorem form_at {K : PySem.W.Frag} {H : Hp} {u : V} {m : MRow} (h : Dp K H u (mT m).r) : ∃ q t, u = .ref q ∧ SqT K H q [.str (SX.S m.so), .ref t] ∧ SqT K H t (nmV m.pt) := by
  cases h with
  | tup hS hA =>
    cases hA with
    | cons a0 hA =>
      cases hA with
      | cons a1 hA =>
        cases hA
        cases a0
        cases a1 with
        | tup hS2 hA2 =>
          rw [names_of hA2] at hS2
          exact ⟨_, _, rfl, hS, hS2⟩
theorem tup_at {K : PySem.W.Frag} {H : Hp} {n : Nat} {v : V} {d : PyData} (hd : Dp K H v d) (h : tupN n d = true) : ∃ q vs, v = .ref q ∧ SqT K H q vs ∧ DpAll K H vs (tupD d) ∧ (tupD d).length = n := by
  cases hd with
  | tup hS hA => exact ⟨_, _, rfl, hS, hA, of_decide_eq_true h⟩
  | _ => cases h
/-- all of them, as the list's truths -/
def zipB (f : Option Str → PyData → Bool) (ds : List PyData) (ks : List (List Nat)) (j : Nat) : List Bool := (ds.zip ks).take j |>.map fun x => f (some (SX.S x.2)) x.1
theorem allZ_zip (f : Option Str → PyData → Bool) : ∀ (ds : List PyData) (ks : List (List Nat)), ((ds.zip ks).map fun x => f (some (SX.S x.2)) x.1).all id = allZ f ds ks
  | [], _ => rfl
  | _ :: _, [] => rfl
  | d :: ds, k :: ks => by
    show (f (some (SX.S k)) d && ((ds.zip ks).map fun x => f (some (SX.S x.2)) x.1).all id) = _
    rw [allZ_zip f ds ks]
    rfl
theorem zipB_all (f : Option Str → PyData → Bool) {ds : List PyData} {ks : List (List Nat)} {j : Nat} (h : j = min ds.length ks.length) : (zipB f ds ks j).all id = allZ f ds ks := by
  unfold zipB
  rw [List.take_of_length_le (by rw [List.length_zip]; omega)]
  exact allZ_zip f ds ks
theorem zipB_succ (f : Option Str → PyData → Bool) {ds : List PyData} {ks : List (List Nat)} {j : Nat} {d : PyData} {k : List Nat} (h1 : ds[j]? = some d) (h2 : ks[j]? = some k) : zipB f ds ks (j + 1) = zipB f ds ks j ++ [f (some (SX.S k)) d] := by
  unfold zipB
  have e : (ds.zip ks)[j]? = some (d, k) := by
    rw [List.getElem?_zip_eq_some]
    exact ⟨h1, h2⟩
  rw [List.take_add_one, e, List.map_append]
  rfl
theorem zipB_len (f : Option Str → PyData → Bool) (ds : List PyData) (ks : List (List Nat)) (j : Nat) : (zipB f ds ks j).length ≤ j := by
  unfold zipB
  rw [List.length_map, List.length_take]
  omega
theorem nodup_eq {α : Type} {f : α → List Nat} : ∀ {xs : List α}, (xs.map f).Nodup → ∀ {x y : α}, x ∈ xs → y ∈ xs → f x = f y → x = y
  | [], _, _, _, hx, _, _ => nomatch hx
  | a :: xs, h, x, y, hx, hy, e => by
    rw [List.map_cons, List.nodup_cons] at h
    rcases List.mem_cons.mp hx with hx1 | hx1
    · rcases List.mem_cons.mp hy with hy1 | hy1
      · rw [hx1, hy1]
      · exact absurd (by rw [← hx1, e]; exact List.mem_map_of_mem hy1) h.1
    · rcases List.mem_cons.mp hy with hy1 | hy1
      · exact absurd (by rw [← hy1, ← e]; exact List.mem_map_of_mem hx1) h.1
      · exact nodup_eq h.2 hx1 hy1 e
theorem nmV_k14 {ws : List (List Nat)} {j : Nat} {v : V} (hv : (nmV ws)[j]? = some v) : ∃ u, ws[j]? = some u ∧ v = V.str (SX.S u) := by
  unfold nmV at hv
  rw [List.getElem?_map] at hv
  cases e : ws[j]? with
  | none => rw [e] at hv; cases hv
  | some u => rw [e] at hv; exact ⟨u, rfl, (Option.some.inj hv).symm⟩
theorem sm_len {n : Nat} {d : PyData} (h : Sm n d) : (tupD d).length ≤ 500 := by
  cases h with
  | tup n hl a => exact hl
  | _ => exact Nat.zero_le _
structure Ti (mg : Str → Option Value) : Prop where
  isinstance : mg "isinstance" = none
  int : mg "int" = none
  bool : mg "bool" = none
  str : mg "str" = none
  tuple : mg "tuple" = none
  len : mg "len" = none
  all : mg "all" = none
  zip : mg "zip" = none
def spIsTree (K : PySem.W.Frag) (P : Program) (w : World) (G : Addr) (sn n : Nat) : Sp := fun vs H Q _ => ∃ (Z : Hp) (x : Addr) (v : V) (due : Option Str) (d : PyData) (rs : List SRow) (ms : List MRow) (ru : List RRow) (roof : Nat), vs = [.ref x, v, dueV due] ∧ GrOk K P w G Z H x rs ms ru roof ∧ (ms.map MRow.nm).Nodup ∧ Dp K H v d ∧ Sm (2 * n) d ∧ 2 * n ≤ sn ∧
  ∀ H', Same H H' → Q (.bl (isTr ms n due d)) H'
theorem sm_part {n : Nat} {d0 d1 d2 : PyData} (h : Sm (2 * (n + 1)) (.tuple [d0, d1, d2])) : ∀ x ∈ tupD d2, Sm (2 * n) x := by
  cases h with
  | tup _ _ a =>
    have h2 := a d2 (by simp)
    intro x hx
    cases h2 with
    | tup _ _ b => exact b x hx
    | _ => cases hx
theorem sm_tup {m : Nat} {ds : List PyData} (h : Sm m (.tuple ds)) : ds.length ≤ 500 ∧ ∀ x ∈ ds, Sm m x := by
  cases h with
  | tup n hl a => exact ⟨hl, fun x hx => (a x hx).succ⟩
section
variable {P : Program} {w : World} {K : PySem.W.Frag} {mg : Str → Option Value} {base : Heap} {G C : Addr}
theorem run_is_tree {sn : Nat} (T : Ti mg) (cis_tuple_of : C8.Cal P w K mg base 1 "is_tuple_of" (spTupOf K) []) (cis_worth : C8.Cal P w K mg base 2 "is_worth" (spWorth K) []) (cform_of : C8.Cal P w K mg base (sn + 6) "form_of" (spFormOf K P w G sn) [])
    {f : Addr} {fd : FuncData} (F : FunD K "is_tree" "is_tree" (defArgs s_is_tree) (defBody s_is_tree) (defScope s_is_tree) [] [("sort", .non)] f fd) (g : mg "is_tree" = some (.ref f)) : ∀ n, FnOk P w K mg base CX0 (sn + 7 + n) f fd P_is_tree (spIsTree K P w G sn n) := by
  have hk1 := kbindsN (ps := P_is_tree) F 2 ["sort"] (fun us ws => us ++ ws) (fun h2 h3 => Vals.append h2 h3) (fun kV doc pm an cdv ct us ws hl hw => match us, ws, hl, hw with
    | [_, _], [_], _, _ => rfl)
  have step : ∀ (n : Nat) (sp : Sp), KCal P w K mg base (sn + 6 + n) "is_tree" sp 2 ["sort"] (fun vs zs => vs ++ zs) → (∀ m, n = m + 1 → sp = spIsTree K P w G sn m) → FnOk P w K mg base CX0 (sn + 7 + n) f fd P_is_tree (spIsTree K P w G sn n) := by
    intro n sp cis_tree hsp
    rw [show sn + 7 + n = (sn + 6 + n) + 1 by omega]
    refine F.ok sc_is_tree (fun vs H Q E h => ?_) (fun cdv A outer s H vs Q E hr h => ?_)
    · obtain ⟨Z, x, v, due, d, rs, ms, ru, roof, rfl, _⟩ := h
      rfl
    · obtain ⟨Z, x, v, due, d, rs, ms, ru, roof, rfl, go, hnd, hd, hs, hsn, q⟩ := h
      refine ⟨_, (pss_cons (ps_if (pt_not (pt_val (C8.pe_c cis_tuple_of hr (by omega) (by rfl) (pa_cons (pv 1) (pa_cons pe_int pa_nil)))))
            (pss_one (ps_ret pe_bl))
            pss_nil)
          (pss_cons (ps_asg (pv 1) (pg_tup rfl (pgs_cons (pg_name (i := 3) sc_is_tree.nd rfl (Or.inl rfl)) (pgs_cons (pg_name (i := 4) sc_is_tree.nd rfl (Or.inl rfl)) (pgs_cons (pg_name (i := 5) sc_is_tree.nd rfl (Or.inl rfl)) pgs_nil)))))
          (pss_cons (ps_set (i := 6) sc_is_tree.nd rfl (Or.inl rfl) (C8.pe_c cform_of hr (by omega) (by rfl) (pa_cons (pv 0) (pa_cons (pv 3) pa_nil))))
          (pss_cons (ps_if (PW.pt (pw_or (pt_cmpR op_isN (pv 6) pe_non (nomark _)) (pw_or (pt_not (pt_val (C8.pe_c cis_worth hr (by omega) (by rfl) (pa_cons (pv 4) pa_nil)))) (pw_or1 (pt_not (pt_val (C8.pe_c cis_tuple_of hr (by omega) (by rfl) (pa_cons (pv 5) (pa_cons (pe_callB call_len_seq (by rfl) T.len PySem.boot_len (pa_cons (pe_ix ix_tup (pv 6) pe_int (fun _ _ => rfl)) pa_nil)) pa_nil)))))))))
            (pss_one (ps_ret pe_bl))
            pss_nil)
          (C8.pss_cut (ps_if (PW.pt (pw_and (pt_cmpR op_notN (pv 2) pe_non (nomark _)) (pw_and1 (pt_cmpR op_ne (pv 2) (pe_ix ix_tup (pv 6) pe_int (fun _ _ => rfl)) (nomark _)))))
            (pss_one (ps_ret pe_bl))
            pss_nil)
          (pss_one (ps_ret (pe_callB (cr_all rfl) (by rfl) T.all (by decide +kernel) (pa_cons (pe_lc (g := gTup K 2 (gCons (gName 7) (gCons (gName 8) gNil))) (own := [("part", 7), ("due", 8)]) (by exact rfl) sc_is_tree.nd (RZ.pi_zipA (by rfl) T.zip (pa_cons (pv 5) (pa_cons (pe_ix ix_tup (pv 6) pe_int (fun _ _ => rfl)) pa_nil))) (blkOk_by (own := [("part", 7), ("due", 8)]) (N := N_is_tree) (sc := defScope s_is_tree) (by decide +kernel)) (fun _ _ _ _ _ => (pg_tup (n := 2) rfl (pgs_cons (pg_name (i := 7) sc_is_tree.nd rfl (Or.inl rfl) (Or.inr rfl)) (pgs_cons (pg_name (i := 8) sc_is_tree.nd rfl (Or.inl rfl) (Or.inr rfl)) pgs_nil)))) (fun _ _ _ _ _ => pts_nil) (fun _ _ _ _ _ => (pe_kw cis_tree hr (by omega) (by rfl) (pa_cons (pv 0) (pa_cons (pv 7) pa_nil)) (pk_cons (pv 8) pk_nil)))) pa_nil))))))))), ?_⟩
      refine ⟨_, rfl, v, d, 3, rfl, hd, _, rfl, ?_⟩
      cases n with
      | zero =>
        have e3 : tupN 3 d = false := by cases hs <;> rfl
        rw [e3]
        exact iteT (q H (Same.refl H))
      | succ n =>
        obtain rfl := hsp n rfl
        cases h3 : tupN 3 d with
        | false =>
          have e : isTr ms (n + 1) due d = false := node_not3 h3
          rw [e] at q
          exact iteT (q H (Same.refl H))
        | true =>
          refine iteF ?_
          obtain ⟨p, v0, v1, v2, d0, d1, d2, rfl, rfl, hS, h0, h1, h2⟩ := three hd h3
          refine ⟨_, rfl, p, _, rfl, hS, rfl, _, _, rfl, _, _, rfl, _, _, rfl, rfl, ?_⟩
          have hsa := sm_tup hs
          refine ⟨_, rfl, _, rfl, Z, x, v0, d0, rs, ms, ru, roof, rfl, go, hnd, h0, (hsa.2 d0 (by simp)).up hsn, fun m hm e0 u hu => ?_, fun hno H1 s1 => ?_⟩
          · have em : mOf ms d0 = some m := by
              cases e : mOf ms d0 with
              | none => exact absurd e0 (mOf_none e m hm)
              | some m' =>
                obtain ⟨hm', e1⟩ := mOf_some e
                have en : m'.nm = m.nm := by
                  rw [e0] at e1
                  exact (SX.S_inj (PyData.str.inj e1)).symm
                rw [nodup_eq hnd hm' hm en]
            have hv : isTr ms (n + 1) due (.tuple [d0, d1, d2]) = (worthB d1 && (tupN m.pt.length d2 && (dueB due (SX.S m.so) && allZ (isTr ms n) (tupD d2) m.pt))) := by
              show (match mOf ms d0 with | some m => worthB d1 && (tupN m.pt.length d2 && (dueB due (SX.S m.so) && allZ (isTr ms n) (tupD d2) m.pt)) | none => false) = _
              rw [em]
            rw [hv] at q
            obtain ⟨fq, ft, rfl, hf, hft⟩ := form_at hu
            refine ⟨_, rfl, rfl, _, rfl, iteF ?_⟩
            refine ⟨_, rfl, v1, d1, rfl, h1, _, rfl, ?_⟩
            cases hw : worthB d1 with
            | false =>
              rw [hw] at q
              exact iteT (iteT (q H (Same.refl H)))
            | true =>
              rw [hw] at q
              refine iteF ?_
              refine ⟨_, rfl, _, rfl, fq, _, 1, .ref ft, rfl, rfl, hf, atI_nat (j := 1) rfl, ft, _, rfl, .inr hft, v2, d2, m.pt.length, by rw [nmV_len]; rfl, h2, _, rfl, ?_⟩
              cases ht : tupN m.pt.length d2 with
              | false =>
                rw [ht] at q
                exact iteT (q H (Same.refl H))
              | true =>
                rw [ht] at q
                refine iteF ?_
                obtain ⟨tq, tvs, rfl, htS, htA, htl⟩ := tup_at h2 ht
                have q' : ∀ b, b = dueB due (SX.S m.so) → ∀ H', Same H H' → Q (.bl (b && allZ (isTr ms n) (tupD d2) m.pt)) H' := fun b e => by
                  rw [e]
                  exact q
                refine ⟨fun σ X => σ = [some (.ref x), some (.ref p), some (dueV due), some v0, some v1, some (.ref tq), some (.ref fq), none, none] ∧ X = H ∧ dueB due (SX.S m.so) = true, ?_, ?_⟩
                · cases due with
                  | none => exact ⟨_, rfl, rfl, _, rfl, iteF ⟨rfl, rfl, rfl⟩⟩
                  | some z =>
                    refine ⟨_, rfl, rfl, _, rfl, iteT ?_⟩
                    refine ⟨_, rfl, _, rfl, fq, _, 0, .str (SX.S m.so), rfl, rfl, hf, atI_nat (j := 0) rfl, rfl, _, rfl, ?_⟩
                    by_cases hz : z = SX.S m.so
                    · refine ifF (by rw [hz]; exact show (!decide (V.str (SX.S m.so) = V.str (SX.S m.so))) = false by simp) ⟨rfl, rfl, by rw [hz]; exact decide_eq_true rfl⟩
                    · refine ifT (show (!decide (V.str z = V.str (SX.S m.so))) = true by simp [hz]) ?_
                      exact q' false (decide_eq_false hz).symm H (Same.refl H)
                · rintro σ X ⟨rfl, eX, hdue⟩
                  rw [eX]
                  have q2 := q' true hdue.symm
                  have ltv := dpAll_len htA
                  refine ⟨_, rfl, _, rfl, fq, _, 1, .ref ft, rfl, rfl, hf, atI_nat (j := 1) rfl, tq, ft, tvs, nmV m.pt, rfl, .inr ⟨htS, hft, fun D nD => ?_⟩⟩
                  refine lc_it (walk_zipT (K := K) (a := tq) (b := ft) (xs := tvs) (ys := nmV m.pt) rfl) (fun j H' => Same H H' ∧ H' D = some (.lst ((zipB (isTr ms n) (tupD d2) m.pt j).map V.bl)))
                    ⟨same_upd nD, upd_same⟩ (fun j H' _ h => ⟨Same.seqT h.1 htS, Same.seqT h.1 hft⟩) ?_ ?_
                  · rintro j vj H3 H4 hj ⟨sm, hD⟩ ⟨U, xx, yy, rfl, nU, rfl, ex, ey⟩
                    obtain ⟨dj, e1, g1⟩ := dpAll_at htA ex
                    obtain ⟨kj, e2, rfl⟩ := nmV_k14 (ws := m.pt) (j := j) ey
                    have sU : Same H3 (upd H3 U (.tup [xx, .str (SX.S kj)])) := same_upd nU
                    have s5 := sm.trans sU
                    refine ⟨U, _, rfl, SqT.of upd_same, rfl, _, _, rfl, _, _, rfl, rfl, ?_⟩
                    refine ⟨rfl, yesT ?_⟩
                    refine ⟨_, rfl, _, rfl, _, rfl, rfl, rfl, Z, x, xx, some (SX.S kj), dj, rs, ms, ru, roof, rfl, go.same s5, hnd, dp_same s5 g1, sm_part hs dj (List.mem_of_getElem? e1), by omega, fun H6 s6 => ?_⟩
                    have lz := zipB_len (isTr ms n) (tupD d2) m.pt j
                    have hj5 : j < 500 := by
                      have := (List.getElem?_eq_some_iff.mp e1).1
                      have := sm_len (hsa.2 d2 (by simp))
                      omega
                    refine ⟨_, s6 _ _ (sU _ _ hD), by rw [List.length_map]; exact small1000 (by omega), Same.at_ (s5.trans s6) nD, ?_⟩
                    rw [upd_same, zipB_succ _ e1 e2, List.map_append]
                    rfl
                  · rintro H6 ⟨s6, hD⟩
                    refine ⟨D, _, rfl, SqL.of hD, ?_⟩
                    rw [zipB_all _ (by rw [ltv, nmV_len])]
                    exact q2 H6 s6
          · have en : mOf ms d0 = none := by
              cases e : mOf ms d0 with
              | none => rfl
              | some m' => exact absurd (mOf_some e).2 (hno m' (mOf_some e).1)
            have hv : isTr ms (n + 1) due (.tuple [d0, d1, d2]) = false := by
              show (match mOf ms d0 with | some m => worthB d1 && (tupN m.pt.length d2 && (dueB due (SX.S m.so) && allZ (isTr ms n) (tupD d2) m.pt)) | none => false) = _
              rw [en]
            rw [hv] at q
            exact ⟨_, rfl, rfl, _, rfl, iteT (q H1 s1)⟩
  intro n
  induction n with
  | zero => exact step 0 (fun _ _ _ _ => False) ⟨f, fd, P_is_tree, _, ⟨fun vs H Q E h => h.elim, fun _ _ _ _ _ _ _ _ _ _ _ _ _ h => h.elim⟩, g, F.kp, hk1⟩ (fun m e => nomatch e)
  | succ n ih => exact step (n + 1) _ ⟨f, fd, P_is_tree, _, by rw [show sn + 6 + (n + 1) = sn + 7 + n by omega]; exact ih, g, F.kp, hk1⟩ (fun m e => by cases e; rfl)
end
/-- the makings of a drawn grammar, by their names -/
structure ByT (K : PySem.W.Frag) (H : Hp) (gd : Addr) (ms : List MRow) : Prop where
  ex : ∃ gkv by_ byk, H gd = some (.dK gkv) ∧ valV gkv (Sum.inr "by") = some (.ref by_) ∧ H by_ = some (.dK byk) ∧ byk.map (·.1) = ms.map (fun m => kS m.nm) ∧ ∀ m ∈ ms, ∃ v, valV byk (kS m.nm) = some v ∧ Dp K H v (.tuple [strD m.so, .tuple (m.pt.map strD)])
theorem GramIn.byt {K : PySem.W.Frag} {Y : Hp} {a gd : Addr} {rs : List SRow} {ms : List MRow} {ru : List RRow} {roof : Nat} (h : GramIn K Y a gd rs ms ru roof) : ByT K Y gd ms := by
  obtain ⟨ls, lm, lr, of, kvs, gs, by_, byk, h1, h2, h3, hks, h4⟩ := h.ex
  exact ⟨kvs, by_, byk, gs.hgd, h1, h3, hks, h4⟩
theorem ByT.same {K : PySem.W.Frag} {Y Z : Hp} {gd : Addr} {ms : List MRow} (h : ByT K Y gd ms) (s : Same Y Z) : ByT K Z gd ms := by
  obtain ⟨gkv, by_, byk, h1, h2, h3, h4, h5⟩ := h.ex
  exact ⟨gkv, by_, byk, s _ _ h1, h2, s _ _ h3, h4, fun m hm => by
    obtain ⟨v, q1, q2⟩ := h5 m hm
    exact ⟨v, q1, dp_same s q2⟩⟩
theorem valV_out {k : Key} : ∀ {kvs : List (Key × V)}, k ∉ kvs.map (·.1) → valV kvs k = none
  | [], _ => rfl
  | p :: kvs, h => by
    rw [List.map_cons, List.mem_cons] at h
    rw [valV_neg (fun e => h (.inl e.symm))]
    exact valV_out fun z => h (.inr z)
def spLawIs (K : PySem.W.Frag) (n : Nat) : Sp := fun vs H Q _ => ∃ (gd : Addr) (v : V) (due : Option Str) (d : PyData) (ms : List MRow), vs = [.ref gd, v, dueV due] ∧ ByT K H gd ms ∧ (ms.map MRow.nm).Nodup ∧ Dp K H v d ∧ Sm (2 * n) d ∧ ∀ H', Same H H' → Q (.bl (isTr ms n due d)) H'
theorem isT_tup {d : PyData} (h : isT d = true) : ∃ ds, d = .tuple ds := by
  cases d with
  | tuple ds => exact ⟨ds, rfl⟩
  | _ => cases h
theorem node_notT {ms : List MRow} {f : Option Str → PyData → Bool} {due : Option Str} {d : PyData} (h : isT d = false) : nodeB ms f due d = false := by
  unfold nodeB
  split
  · cases h
  · rfl
theorem node_len {ms : List MRow} {f : Option Str → PyData → Bool} {due : Option Str} {ds : List PyData} (h : ds.length ≠ 3) : nodeB ms f due (.tuple ds) = false := node_not3 (decide_eq_false h)
theorem due_in (due : Option Str) (s : Str) : (!inV (dueV due) [.non, .str s]) = !dueB due s := by
  cases due with
  | none => rfl
  | some z =>
    show (!((eqV .non (.str z)) || ((eqV (.str s) (.str z)) || false))) = !decide (z = s)
    show (!(false || (decide (s = z) || false))) = !decide (z = s)
    rw [Bool.false_or, Bool.or_false, show decide (s = z) = decide (z = s) from by rw [Bool.eq_iff_iff, decide_eq_true_eq, decide_eq_true_eq]; exact eq_comm]
section
variable {P : Program} {w : World} {K : PySem.W.Frag} {mg : Str → Option Value} {base : Heap}
theorem ok_law_is (T : Ti mg) (D : Dd K mg "_law_is" s__law_is P__law_is) : ∀ n, C8.Cal P w K mg base (n + 1) "_law_is" (spLawIs K n) [] := by
  have step : ∀ (n : Nat) (sp : Sp), C8.Cal P w K mg base n "_law_is" sp [] → (∀ m, n = m + 1 → sp = spLawIs K m) → C8.Cal P w K mg base (n + 1) "_law_is" (spLawIs K n) [] := by
    intro n sp c_law_is hsp
    refine D.cal sc__law_is (fun vs H Q E h => ?_) (fun f cdv A outer s H vs Q E hr h => ?_)
    · obtain ⟨gd, v, due, d, ms, rfl, _⟩ := h
      rfl
    · obtain ⟨gd, v, due, d, ms, rfl, hby, hnd, hd, hs, q⟩ := h
      obtain ⟨gkv, by_, byk, hgd, hgb, hbk, hkeys, hvals⟩ := hby.ex
      have getb : DGet H gd (.str "by") (some (.ref by_)) := by
        have h := DGet.k (k := Sum.inr "by") hgd
        rw [hgb] at h
        exact h
      refine ⟨_, (pss_cons (ps_if (PW.pt (pw_or (pt_not (pt_val (pe_callB call_isi (by rfl) T.isinstance (by decide +kernel) (pa_cons (pv 1) (pa_cons (pe_bltn (v := .ty "tuple") rfl T.tuple (by decide +kernel) rfl) pa_nil))))) (pw_or (pt_cmpR op_ne (pe_callB call_len_seq (by rfl) T.len PySem.boot_len (pa_cons (pv 1) pa_nil)) pe_int (nomark _)) (pw_or (pt_not (pt_val (pe_callB call_isi (by rfl) T.isinstance (by decide +kernel) (pa_cons (pe_ix ix_tup (pv 1) pe_int (fun _ _ => rfl)) (pa_cons (pe_bltn (v := .ty "str") rfl T.str (by decide +kernel) rfl) pa_nil))))) (pw_or1 (pt_cmp (pc_dnotin (hu_of hr) (pe_ix ix_tup (pv 1) pe_int (fun _ _ => rfl)) (pe_dget (hu_of hr) (pv 0) pe_str (fun _ _ => rfl))) (by with_unfolding_all rfl)))))))
            (pss_one (ps_ret pe_bl))
            pss_nil)
          (pss_cons (ps_asg (pe_dget (hu_of hr) (pe_dget (hu_of hr) (pv 0) pe_str (fun _ _ => rfl)) (pe_ix ix_tup (pv 1) pe_int (fun _ _ => rfl)) (fun _ _ => rfl)) (pg_tup rfl (pgs_cons (pg_name (i := 3) sc__law_is.nd rfl (Or.inl rfl)) (pgs_cons (pg_name (i := 4) sc__law_is.nd rfl (Or.inl rfl)) pgs_nil))))
          (pss_cons (ps_if (PW.pt (pw_or (pt_not (pt_val (pe_callB call_isi (by rfl) T.isinstance (by decide +kernel) (pa_cons (pe_ix ix_tup (pv 1) pe_int (fun _ _ => rfl)) (pa_cons (pe_bltn (v := .ty "int") rfl T.int (by decide +kernel) rfl) pa_nil))))) (pw_or (pt_val (pe_callB call_isi (by rfl) T.isinstance (by decide +kernel) (pa_cons (pe_ix ix_tup (pv 1) pe_int (fun _ _ => rfl)) (pa_cons (pe_bltn (v := .ty "bool") rfl T.bool (by decide +kernel) rfl) pa_nil)))) (pw_or1 (pt_not (pt_chain op_le op_lt pe_int (pe_ix ix_tup (pv 1) pe_int (fun _ _ => rfl)) (pe_op op_pow pe_int pe_int)))))))
            (pss_one (ps_ret pe_bl))
            pss_nil)
          (C8.pss_cut (ps_if (PW.pt (pw_or (pt_cmpR op_notIn_seq (pv 2) (pe_tup (pa_cons pe_non (pa_cons (pv 3) pa_nil))) (by with_unfolding_all rfl)) (pw_or (pt_not (pt_val (pe_callB call_isi (by rfl) T.isinstance (by decide +kernel) (pa_cons (pe_ix ix_tup (pv 1) pe_int (fun _ _ => rfl)) (pa_cons (pe_bltn (v := .ty "tuple") rfl T.tuple (by decide +kernel) rfl) pa_nil))))) (pw_or1 (pt_cmpR op_ne (pe_callB call_len_seq (by rfl) T.len PySem.boot_len (pa_cons (pe_ix ix_tup (pv 1) pe_int (fun _ _ => rfl)) pa_nil)) (pe_callB call_len_seq (by rfl) T.len PySem.boot_len (pa_cons (pv 4) pa_nil)) (nomark _))))))
            (pss_one (ps_ret pe_bl))
            pss_nil)
          (pss_one (ps_ret (pe_callB (cr_all rfl) (by rfl) T.all (by decide +kernel) (pa_cons (pe_lc (g := gTup K 2 (gCons (gName 5) (gCons (gName 6) gNil))) (own := [("_law_part", 5), ("_law_place", 6)]) (by exact rfl) sc__law_is.nd (RZ.pi_zipA (by rfl) T.zip (pa_cons (pe_ix ix_tup (pv 1) pe_int (fun _ _ => rfl)) (pa_cons (pv 4) pa_nil))) (blkOk_by (own := [("_law_part", 5), ("_law_place", 6)]) (N := N__law_is) (sc := defScope s__law_is) (by decide +kernel)) (fun _ _ _ _ _ => (pg_tup (n := 2) rfl (pgs_cons (pg_name (i := 5) sc__law_is.nd rfl (Or.inl rfl) (Or.inr rfl)) (pgs_cons (pg_name (i := 6) sc__law_is.nd rfl (Or.inl rfl) (Or.inr rfl)) pgs_nil)))) (fun _ _ _ _ _ => pts_nil) (fun _ _ _ _ _ => (C8.pe_c c_law_is hr (by omega) (by rfl) (pa_cons (pv 0) (pa_cons (pv 5) (pa_cons (pv 6) pa_nil)))))) pa_nil)))))))), ?_⟩
      refine ⟨_, rfl, v, .ty "tuple", .type (tyD d), .type "tuple", _, rfl, .ty "tuple", dp_tyD hd, kit_ty (kit_tup hd), _, rfl, ?_⟩
      cases n with
      | zero =>
        have e3 : isT d = false := by cases hs <;> rfl
        rw [e3]
        exact iteT (iteT (q H (Same.refl H)))
      | succ n =>
        obtain rfl := hsp n rfl
        have bad : nodeB ms (isTr ms n) due d = false → Q (.bl false) H := fun e => by
          have q0 := q H (Same.refl H)
          rw [show isTr ms (n + 1) due d = false from e] at q0
          exact q0
        cases hT : isT d with
        | false => exact iteT (iteT (bad (node_notT hT)))
        | true =>
          refine iteF ?_
          obtain ⟨ds, rfl⟩ := isT_tup hT
          obtain ⟨p, vs, rfl, hS, hA⟩ : ∃ p vs, v = .ref p ∧ SqT K H p vs ∧ DpAll K H vs ds := by
            cases hd with
            | tup hS hA => exact ⟨_, _, rfl, hS, hA⟩
          refine ⟨_, rfl, p, vs, rfl, .inr hS, rfl, _, rfl, ?_⟩
          by_cases hl : ds.length = 3
          case neg =>
            refine ifT (show (!decide (V.int ((vs.length : Nat) : Int) = V.int 3)) = true by rw [dpAll_len hA, decide_eq_false (fun z => hl (by have := V.int.inj z; omega))]; rfl) (iteT (bad (node_len hl)))
          refine ifF (show (!decide (V.int ((vs.length : Nat) : Int) = V.int 3)) = false by rw [dpAll_len hA, hl]; rfl) ?_
          obtain ⟨q0, v0, v1, v2, d0, d1, d2, ev, ed, hS', h0, h1, h2⟩ := three hd (decide_eq_true hl)
          injection ev with ev
          injection ed with ed
          subst ev ed
          clear hS hA
          refine ⟨_, rfl, p, _, 0, v0, rfl, rfl, hS', atI_nat (j := 0) rfl, v0, .ty "str", .type (tyD d0), .type "str", _, rfl, .ty "str", dp_tyD h0, kit_ty (kit_strD h0), _, rfl, ?_⟩
          have hsa := sm_tup hs
          cases hz : isS d0 with
          | false =>
            have en : mOf ms d0 = none := by
              cases d0 with
              | str z => cases hz
              | _ => rfl
            refine iteT (iteT (bad ?_))
            show (match mOf ms d0 with | some m => worthB d1 && (tupN m.pt.length d2 && (dueB due (SX.S m.so) && allZ (isTr ms n) (tupD d2) m.pt)) | none => false) = false
            rw [en]
          | true =>
            refine iteF ?_
            obtain ⟨z, rfl⟩ : ∃ z, d0 = .str z := by
              cases d0 with
              | str z => exact ⟨z, rfl⟩
              | _ => cases hz
            cases h0
            cases em : mOf ms (.str z) with
            | none =>
              have hno : DGet H by_ (.str z) none := by
                have h := DGet.k (k := Sum.inr z) hbk
                rw [valV_out (fun hin => by
                  rw [hkeys] at hin
                  obtain ⟨m, hm, e⟩ := List.mem_map.mp hin
                  exact mOf_none em m hm (by rw [← Sum.inr.inj e]; rfl))] at h
                exact h
              refine ⟨_, rfl, p, _, 0, .str z, rfl, rfl, hS', atI_nat (j := 0) rfl, _, rfl, gd, .ref by_, rfl, getb, by_, none, rfl, hno, _, rfl, ?_⟩
              refine ifT rfl ?_
              refine bad ?_
              show (match mOf ms (.str z) with | some m => worthB d1 && (tupN m.pt.length d2 && (dueB due (SX.S m.so) && allZ (isTr ms n) (tupD d2) m.pt)) | none => false) = false
              rw [em]
            | some m =>
              obtain ⟨hm, ez⟩ := mOf_some em
              obtain ⟨fv, hfv, hfd⟩ := hvals m hm
              obtain rfl : z = SX.S m.nm := PyData.str.inj ez
              have hyes : DGet H by_ (.str (SX.S m.nm)) (some fv) := by
                have h := DGet.k (k := kS m.nm) hbk
                rw [hfv] at h
                exact h
              have hv : nodeB ms (isTr ms n) due (.tuple [.str (SX.S m.nm), d1, d2]) = (worthB d1 && (tupN m.pt.length d2 && (dueB due (SX.S m.so) && allZ (isTr ms n) (tupD d2) m.pt))) := by
                show (match mOf ms (.str (SX.S m.nm)) with | some m => worthB d1 && (tupN m.pt.length d2 && (dueB due (SX.S m.so) && allZ (isTr ms n) (tupD d2) m.pt)) | none => false) = _
                rw [em]
              rw [hv] at bad
              have qq : ∀ H', Same H H' → Q (.bl (nodeB ms (isTr ms n) due (.tuple [.str (SX.S m.nm), d1, d2]))) H' := q
              rw [hv] at qq
              obtain ⟨fq, ft, rfl, hf, hft⟩ := form_at (m := m) hfd
              refine ⟨_, rfl, p, _, 0, .str (SX.S m.nm), rfl, rfl, hS', atI_nat (j := 0) rfl, _, rfl, gd, .ref by_, rfl, getb, by_, some (.ref fq), rfl, hyes, _, rfl, ifF rfl ?_⟩
              refine ⟨_, rfl, gd, .ref by_, rfl, getb, _, rfl, p, _, 0, .str (SX.S m.nm), rfl, rfl, hS', atI_nat (j := 0) rfl, by_, .ref fq, rfl, hyes, fq, _, rfl, hf, rfl, _, _, rfl, _, _, rfl, rfl, ?_⟩
              -- the number
              refine ⟨_, rfl, p, _, 1, v1, rfl, rfl, hS', atI_nat (j := 1) rfl, v1, .ty "int", .type (tyD d1), .type "int", _, rfl, .ty "int", dp_tyD h1, kit_ty (kit_intD h1), _, rfl, ?_⟩
              cases hw : worthB d1 with
              | false =>
                rw [hw] at bad
                cases h1 with
                | int i =>
                  refine iteF ⟨_, rfl, p, _, 1, .int i, rfl, rfl, hS', atI_nat (j := 1) rfl, .int i, .ty "bool", .type "int", .type "bool", false, rfl, .ty "bool", .base (.int i), kit_ty (by decide +kernel), _, rfl, iteF ?_⟩
                  have hw : (decide (0 ≤ i) && decide (i < 1000000)) = false := hw
                  by_cases i0 : 0 ≤ i
                  · refine ⟨_, rfl, p, _, 1, .int i, rfl, rfl, hS', atI_nat (j := 1) rfl, _, _, rfl, rfl, _, rfl, ifT (decide_eq_true i0) ?_⟩
                    refine ⟨10, 6, rfl, rfl, ⟨by decide, by decide, by decide⟩, _, _, rfl, rfl, _, rfl, ?_⟩
                    rw [decide_eq_true i0, Bool.true_and] at hw
                    refine ifT (show (!decide (i < (10 : Int) ^ (6 : Int).toNat)) = true from ?_) (bad rfl)
                    rw [show decide (i < (10 : Int) ^ (6 : Int).toNat) = false from hw]
                    rfl
                  · refine ⟨_, rfl, p, _, 1, .int i, rfl, rfl, hS', atI_nat (j := 1) rfl, _, _, rfl, rfl, _, rfl, ifF (decide_eq_false i0) ?_⟩
                    refine ⟨_, rfl, ?_⟩
                    refine ifT rfl ?_
                    exact bad rfl
                | bl b => exact iteF ⟨_, rfl, p, _, 1, .bl b, rfl, rfl, hS', atI_nat (j := 1) rfl, .bl b, .ty "bool", .type "bool", .type "bool", true, rfl, .ty "bool", .base (.bl b), kit_ty (by decide +kernel), _, rfl, iteT (iteT (bad rfl))⟩
                | non => exact iteT (iteT (bad rfl))
                | str z => exact iteT (iteT (bad rfl))
                | lst h a => exact iteT (iteT (bad rfl))
                | tup h a => exact iteT (iteT (bad rfl))
              | true =>
                rw [hw] at bad qq
                simp only [Bool.true_and] at qq
                cases h1 with
                | bl b => cases hw
                | non => cases hw
                | str z => cases hw
                | lst h a => cases hw
                | tup h a => cases hw
                | int i =>
                  have hw : (decide (0 ≤ i) && decide (i < 1000000)) = true := hw
                  rw [Bool.and_eq_true, decide_eq_true_eq, decide_eq_true_eq] at hw
                  refine iteF ⟨_, rfl, p, _, 1, .int i, rfl, rfl, hS', atI_nat (j := 1) rfl, .int i, .ty "bool", .type "int", .type "bool", false, rfl, .ty "bool", .base (.int i), kit_ty (by decide +kernel), _, rfl, iteF ?_⟩
                  refine ⟨_, rfl, p, _, 1, .int i, rfl, rfl, hS', atI_nat (j := 1) rfl, _, _, rfl, rfl, _, rfl, ifT (decide_eq_true hw.1) ?_⟩
                  refine ⟨10, 6, rfl, rfl, ⟨by decide, by decide, by decide⟩, _, _, rfl, rfl, _, rfl, ?_⟩
                  refine ifF (show (!decide (i < (10 : Int) ^ (6 : Int).toNat)) = false from by rw [show decide (i < (10 : Int) ^ (6 : Int).toNat) = true from decide_eq_true hw.2]; rfl) ?_
                  -- the sort, the parts
                  refine ⟨fun σ X => σ = [some (.ref gd), some (.ref p), some (dueV due), some (.str (SX.S m.so)), some (.ref ft), none, none] ∧ Same H X ∧ dueB due (SX.S m.so) = true ∧ tupN m.pt.length d2 = true, ?_, ?_⟩
                  · refine ⟨_, rfl, _, rfl, by show 2 ≤ sizeLine; decide, fun t2 n2 => ?_⟩
                    have s2 := same_upd (o := .tup [.non, .str (SX.S m.so)]) n2
                    have bad2 : (tupN m.pt.length d2 && (dueB due (SX.S m.so) && allZ (isTr ms n) (tupD d2) m.pt)) = false → Q (.bl false) (upd H t2 (.tup [.non, .str (SX.S m.so)])) := fun e => by
                      have := qq _ s2
                      rw [e] at this
                      exact this
                    refine ⟨t2, _, rfl, .inr (SqT.of upd_same), by cases due <;> rfl, rfl, ?_⟩
                    refine ⟨_, rfl, ?_⟩
                    rw [show (if true = true then !inV (dueV due) [V.non, V.str (SX.S m.so)] else inV (dueV due) [V.non, V.str (SX.S m.so)]) = !dueB due (SX.S m.so) from due_in due _]
                    cases hdu : dueB due (SX.S m.so) with
                    | false =>
                      refine iteT (iteT (bad2 ?_))
                      rw [hdu]
                      simp
                    | true =>
                      refine iteF ⟨_, rfl, p, _, 2, v2, rfl, rfl, Same.seqT s2 hS', atI_nat (j := 2) rfl, v2, .ty "tuple", .type (tyD d2), .type "tuple", _, rfl, .ty "tuple", dp_tyD (dp_same s2 h2), kit_ty (kit_tup h2), _, rfl, ?_⟩
                      cases hT2 : isT d2 with
                      | false =>
                        refine iteT (iteT (bad2 ?_))
                        have : tupN m.pt.length d2 = false := by
                          cases d2 with
                          | tuple ds => cases hT2
                          | _ => rfl
                        rw [this]
                        rfl
                      | true =>
                        refine iteF ?_
                        obtain ⟨ds, rfl⟩ := isT_tup hT2
                        obtain ⟨p2, vs2, rfl, hS2, hA2⟩ : ∃ p vs, v2 = .ref p ∧ SqT K H p vs ∧ DpAll K H vs ds := by
                          cases h2 with
                          | tup hS hA => exact ⟨_, _, rfl, hS, hA⟩
                        refine ⟨_, rfl, p, _, 2, .ref p2, rfl, rfl, Same.seqT s2 hS', atI_nat (j := 2) rfl, p2, vs2, rfl, .inr (Same.seqT s2 hS2), _, rfl, ft, _, rfl, .inr (Same.seqT s2 hft), rfl, _, rfl, ?_⟩
                        rw [dpAll_len hA2, nmV_len]
                        by_cases hl2 : ds.length = m.pt.length
                        · exact ifF (show (!decide (V.int ((ds.length : Nat) : Int) = V.int ((m.pt.length : Nat) : Int))) = false by rw [hl2]; simp) ⟨rfl, s2, rfl, decide_eq_true hl2⟩
                        · refine ifT (show (!decide (V.int ((ds.length : Nat) : Int) = V.int ((m.pt.length : Nat) : Int))) = true by rw [decide_eq_false (fun z => hl2 (by have := V.int.inj z; omega))]; rfl) (bad2 ?_)
                          rw [show tupN m.pt.length (.tuple ds) = false from decide_eq_false hl2]
                          rfl
                  · rintro σ X ⟨rfl, sX, hdu, htu⟩
                    rw [hdu, htu] at qq
                    simp only [Bool.true_and] at qq
                    obtain ⟨tq, tvs, rfl, htS, htA, htl⟩ := tup_at h2 htu
                    have ltv := dpAll_len htA
                    refine ⟨_, rfl, p, _, 2, .ref tq, rfl, rfl, Same.seqT sX hS', atI_nat (j := 2) rfl, _, rfl, tq, ft, tvs, nmV m.pt, rfl, .inr ⟨Same.seqT sX htS, Same.seqT sX hft, fun D nD => ?_⟩⟩
                    refine lc_it (walk_zipT (K := K) (a := tq) (b := ft) (xs := tvs) (ys := nmV m.pt) rfl) (fun j H' => Same X H' ∧ H' D = some (.lst ((zipB (isTr ms n) (tupD d2) m.pt j).map V.bl)))
                      ⟨same_upd nD, upd_same⟩ (fun j H' _ h => ⟨Same.seqT (sX.trans h.1) htS, Same.seqT (sX.trans h.1) hft⟩) ?_ ?_
                    · rintro j vj H3 H4 hj ⟨sm, hD⟩ ⟨U, xx, yy, rfl, nU, rfl, ex, ey⟩
                      obtain ⟨dj, e1, g1⟩ := dpAll_at htA ex
                      obtain ⟨kj, e2, rfl⟩ := nmV_k14 (ws := m.pt) (j := j) ey
                      have sU : Same H3 (upd H3 U (.tup [xx, .str (SX.S kj)])) := same_upd nU
                      have s5 := sX.trans (sm.trans sU)
                      refine ⟨U, _, rfl, SqT.of upd_same, rfl, _, _, rfl, _, _, rfl, rfl, ?_⟩
                      refine ⟨rfl, yesT ?_⟩
                      refine ⟨_, rfl, _, rfl, _, rfl, gd, xx, some (SX.S kj), dj, ms, rfl, hby.same s5, hnd, dp_same s5 g1, sm_part hs dj (List.mem_of_getElem? e1), fun H6 s6 => ?_⟩
                      have lz := zipB_len (isTr ms n) (tupD d2) m.pt j
                      have hj5 : j < 500 := by
                        have := (List.getElem?_eq_some_iff.mp e1).1
                        have := sm_len (hsa.2 d2 (by simp))
                        omega
                      refine ⟨_, s6 _ _ (sU _ _ hD), by rw [List.length_map]; exact small1000 (by omega), Same.at_ ((sm.trans sU).trans s6) nD, ?_⟩
                      rw [upd_same, zipB_succ _ e1 e2, List.map_append]
                      rfl
                    · rintro H6 ⟨s6, hD⟩
                      refine ⟨D, _, rfl, SqL.of hD, ?_⟩
                      rw [zipB_all _ (by rw [ltv, nmV_len])]
                      exact qq H6 (sX.trans s6)
  intro n
  induction n with
  | zero =>
    obtain ⟨f, fd, F, g, b⟩ := D.ex
    exact step 0 (fun _ _ _ _ => False) ⟨f, fd, P__law_is, [], ⟨fun vs H Q E h => h.elim, fun _ _ _ _ _ _ _ _ _ _ _ _ _ h => h.elim⟩, g, F.kp, b, .nil⟩ (fun m e => nomatch e)
  | succ n ih => exact step (n + 1) _ ih (fun m e => by cases e; rfl)
end
/-! ### tuples: t[::-1], t * n for small n -/
section
variable {prog : Program} {w : World} {A : Around} {E : Value → Shared → Prop} {s : Shared}
theorem sliceApplied_rev {sl : Addr} {vl vu vs : Value} {n : Nat} {Q : Int × Int × Nat → Shared → Prop} (hs : s.heap.IsSliceOf sl vl vu vs) (pl : IsPart vl none) (pu : IsPart vu none) (ps : IsPart vs (some (-1)))
    (h : Q (((n : Nat) : Int) - 1, -1, n) s) : wpAny (model prog w) A (Builtin.Slice.sliceApplied (.ref sl) (pure (n : Int))) Q E s := by
  obtain ⟨os, hos, hcs, hds⟩ := id hs
  unfold Builtin.Slice.sliceApplied Builtin.Slice.sliceFields
  refine wpAny_bind (wpAny_bind (wpAny_field hos hds (x := vl) rfl (wpAny_bind (wpAny_field hos hds (x := vu) rfl (wpAny_bind (wpAny_field hos hds (x := vs) rfl (wpAny_pure ?_)))))))
  refine wpAny_bind (HT.slicePart_ ps ?_)
  show wpAny _ _ (if ((-1 : Int) == 0) = true then _ else _) _ _ s
  rw [if_neg (by decide)]
  refine wpAny_bind (HT.slicePart_ pl (wpAny_bind (HT.slicePart_ pu (wpAny_bind (wpAny_pure ?_)))))
  show wpAny _ _ (match Builtin.Slice.sliceAdjust none none (-1) (n : Int) with | (lo, hi) => pure (lo, (-1 : Int), Builtin.Slice.slicePlaces lo hi (-1))) _ _ s
  have e1 : Builtin.Slice.sliceAdjust none none (-1) (n : Int) = ((n : Int) - 1, -1) := rfl
  have e2 : Builtin.Slice.slicePlaces ((n : Int) - 1) (-1) (-1) = n := by
    unfold Builtin.Slice.slicePlaces
    simp
    omega
  rw [e1]
  show wpAny _ _ (pure ((n : Int) - 1, (-1 : Int), Builtin.Slice.slicePlaces ((n : Int) - 1) (-1) (-1))) _ _ s
  rw [e2]
  exact wpAny_pure h
theorem filterMap_all {α β : Type} {f : α → Option β} {g : α → β} : ∀ {l : List α}, (∀ m ∈ l, f m = some (g m)) → l.filterMap f = l.map g
  | [], _ => rfl
  | a :: l, h => by
    rw [List.filterMap_cons_some (h a (List.mem_cons_self ..)), filterMap_all fun m hm => h m (List.mem_cons_of_mem _ hm)]
    rfl
theorem pick_rev (xs : Array Value) : ((List.range xs.size).filterMap fun (m : Nat) => xs[(((xs.size : Nat) : Int) - 1 + (m : Int) * (-1)).toNat]?).toArray = xs.toList.reverse.toArray := by
  congr 1
  refine List.ext_getElem? fun i => ?_
  have e : ∀ m ∈ List.range xs.size, xs[(((xs.size : Nat) : Int) - 1 + (m : Int) * (-1)).toNat]? = some (xs.getD (xs.size - 1 - m) default) := fun m hm => by
    have hm := List.mem_range.mp hm
    have e1 : (((xs.size : Nat) : Int) - 1 + (m : Int) * (-1)).toNat = xs.size - 1 - m := by omega
    have hl : xs.size - 1 - m < xs.size := by omega
    rw [e1]
    simp [hl]
  rw [filterMap_all e]
  by_cases hi : i < xs.size
  · have hl : xs.size - 1 - i < xs.size := by omega
    rw [List.getElem?_map, List.getElem?_range hi]
    rw [List.getElem?_reverse (by rw [Array.length_toList]; exact hi)]
    simp [hl]
  · rw [List.getElem?_eq_none (by simp; omega), List.getElem?_eq_none (by simp; omega)]
theorem getItem_tuple_rev {t sl : Addr} {items : Array Value} {vl vu vs : Value} {Q : Value → Shared → Prop} (ht : IsTup s.heap t items) (hs : s.heap.IsSliceOf sl vl vu vs) (pl : IsPart vl none) (pu : IsPart vu none) (ps : IsPart vs (some (-1)))
    (h : Q (.ref s.heap.objs.size) { s with heap := s.heap.push { cls := .type "tuple", data := .seq items.toList.reverse.toArray } })
    (hsz : items.size ≤ sizeLine) : wpAny (model prog w) A (getItem (.ref t) (.ref sl)) Q E s := by
  have htake : sizeOk (.seq items.toList.reverse.toArray) := by
    show items.toList.reverse.toArray.size ≤ sizeLine
    rw [List.size_toArray, List.length_reverse, Array.length_toList]
    exact hsz
  obtain ⟨os, hos, hcs, hds⟩ := id hs
  have hTs : s.TypeIs (.ref sl) "slice" := ⟨os, hos, hcs⟩
  unfold getItem
  try with_reducible refine wpAny_holding ?_
  first | refine wpAny_bind (wpAny_pure ?_) | skip
  refine wpAny_bind (wpAny_sequenceKey ht.typeIs (by decide) ?_)
  refine wpAny_bind (wpAny_callSpecial?_slot (name := Str.ofString "__getitem__") ht.typeIs PyProof.Rows.slot_tuple_getitem
    (wpAny_call_entry PyProof.Rows.slot_tuple_getitem ht.typeIs entry_tuple_getitem ?_ (args_tuple_getitem _ _)))
  show wpAny _ _ (Builtin.Tuple.tupleItemsOf (.ref t) >>= _) _ _ s
  refine wpAny_bind (PyProof.Rows.tupleItemsOf_ ht ?_)
  refine wpAny_bind (wpAny_typeOf hTs ?_)
  rw [if_pos (by decide)]
  refine wpAny_bind (sliceApplied_rev hs pl pu ps ?_)
  have hno : ¬ (((((items.size : Nat) : Int) - 1) == 0 && (-1 : Int) == 1 && items.size == items.size) = true) := by
    rw [show ((-1 : Int) == 1) = false from rfl, Bool.and_false, Bool.false_and]
    exact Bool.false_ne_true
  show wpAny _ _ (if ((((items.size : Nat) : Int) - 1) == 0 && (-1 : Int) == 1 && items.size == items.size) = true then _ else _) _ _ s
  rw [if_neg hno, pick_rev]
  first
    | exact wpAny_bind (m := Builtin.Tuple.tupleExact _) (wpAny_newObj_type (wpAny_pure ⟨_, rfl, wpAny_pure h⟩) htake)
    | exact wpAny_bind (m := Builtin.Tuple.tupleExact _) (wpAny_newObj_type (wpAny_bind (wpAny_pure (wpAny_pure ⟨_, rfl, wpAny_pure h⟩))) htake)
    | exact wpAny_bind (wpAny_bind (m := Builtin.Tuple.tupleExact _) (wpAny_newObj_type (wpAny_pure (wpAny_pure ⟨_, rfl, wpAny_pure h⟩)) htake))
    | exact wpAny_bind (wpAny_bind (m := Builtin.Tuple.tupleExact _) (wpAny_newObj_type (wpAny_pure ⟨_, rfl, wpAny_pure h⟩) htake))
end
section
variable {X : Cx}
def tRevT (K : PySem.W.Frag) (te : TE) : TE := fun σ H Q => te σ H fun x H1 => ∃ a xs, x = .ref a ∧ SqT K H1 a xs ∧ ∀ p, H1 p = none → Q (.ref p) (upd H1 p (.tup xs.reverse))
theorem pe_revT {e : Expr} {te : TE} {k : Nat} {p1 p2 p3 pos : Pos} (he : PE X e te) : PE X (.Subscript e (.Slice none none (some (.UnaryOp .USub (.Constant (.int 1) k p1) p2)) p3) pos) (tRevT X.K te) := by
  refine ⟨fun pins s σ H Q I h => ?_⟩
  refine Subscript_ (thn (he.run pins s σ H _ I h) fun v s1 ⟨x, H1, I1, r1, q1⟩ => ?_)
  obtain ⟨a, xs, ex, hx, q⟩ := q1
  subst ex
  cases r1
  have hst : PO X (some (.UnaryOp .USub (.Constant (.int 1) k p1) p2)) (tPart (tUn (rU fun i => .int (-i)) (tC (.int 1)))) := po_some (pe_un un_neg pe_int)
  refine wpAny_Slice (thn (po_none.run pins s1 σ H1 (fun o H2 => o = none ∧ H2 = H1) I1 ⟨rfl, rfl⟩) fun vl s2 ⟨l, H2, I2, pl, el, e2⟩ => ?_)
  subst el e2
  refine thn (po_none.run pins s2 σ H2 (fun o H3 => o = none ∧ H3 = H2) I2 ⟨rfl, rfl⟩) fun vu s3 ⟨u, H3, I3, pu, eu, e3⟩ => ?_
  subst eu e3
  refine thn (hst.run pins s3 σ H3 (fun o H4 => o = some (-1) ∧ H4 = H3) I3 ⟨1, rfl, -1, rfl, rfl, rfl⟩) fun vs s4 ⟨o, H4, I4, ps, eo, e4⟩ => ?_
  subst eo e4
  have I5 : Inv X pins σ H4 { s4 with heap := s4.heap.push { cls := .type "slice", data := .fields #[vl, vu, vs] } } := I4.kept (t' := s4.toks) fun b ob q => Heap.get?_push_of_some _ q
  obtain ⟨its, r, ht, hz⟩ := I5.tuple hx
  have hlen := r.length
  show wpAny (model X.prog X.w) X.A (subscriptTail e (.Slice none none (some (.UnaryOp .USub (.Constant (.int 1) k p1) p2)) p3) (.ref a) (.ref s4.heap.objs.size)) (EP X pins σ Q) X.xe { s4 with heap := s4.heap.push { cls := .type "slice", data := .fields #[vl, vu, vs] } }
  refine tail_any (ops := [.ref a, .ref s4.heap.objs.size]) ht.typeIs (PyProof.Rows.slot_tuple_getitem.lookup) ?_ (by with_unfolding_all rfl)
  refine getItem_tuple_rev ht (Heap.IsSliceOf.new _ vl vu vs) pl pu ps ?_ (by rw [List.size_toArray]; omega)
  refine ⟨.ref _, _, I5.laid (t' := s4.toks) (o := .tup xs.reverse) (fun b ob q => Heap.get?_push_of_some _ q) (Nat.le_refl _) ?_, rfl, q _ (I5.hok.fresh (Nat.le_refl _))⟩
  exact ⟨by rw [List.length_reverse]; exact hz, _, r.reverse, IsTup.new _ _⟩
theorem tuple_mul1 (l : Addr) (items : Array Value) (n : Nat) (dd : Option Addr) (sl : Array (Option Value)) (u : Tok) :
    Meets (Builtin.«tuple.__mul__» ⟨[.ref l, .int 1 u], []⟩) (fun _ R s => s.heap.get? l = some { cls := .type "tuple", dict := dd, data := .seq items n, slots := sl } ∧ R (.ok (.ret (Value.ref l))) s) :=
  .of_wp fun prog w A R s h => by
    obtain ⟨hp, g, d, tk, os⟩ := s
    obtain ⟨hl, h⟩ := h
    have f1 := AutoSeq1.idx_int
    have c1 : (items.isEmpty || (1 : Int) == 1) = true := by simp
    wp_walk using wpAny_loadPart' hl
    repeat (first
      | (refine wpAny_ite_false (decide_eq_false (by decide)) ?_; wp_walk using wpAny_loadPart' hl)
      | (refine wpAny_ite_true (decide_eq_true c1) ?_; wp_walk using wpAny_loadPart' hl))
    exact ⟨_, rfl, h⟩
theorem tuple_mul0 (l : Addr) (items : Array Value) (n : Nat) (dd : Option Addr) (sl : Array (Option Value)) (u : Tok) (c1 : (items.isEmpty || (0 : Int) == 1) = false) :
    Meets (Builtin.«tuple.__mul__» ⟨[.ref l, .int 0 u], []⟩) (fun _ R s => s.heap.get? l = some { cls := .type "tuple", dict := dd, data := .seq items n, slots := sl } ∧
      R (.ok (.ret (Value.ref s.heap.objs.size))) { s with heap := s.heap.push { cls := Value.type "tuple", data := Data.seq #[] }, toks := s.toks }) :=
  .of_wp fun prog w A R s h => by
    obtain ⟨hp, g, d, tk, os⟩ := s
    obtain ⟨hl, h⟩ := h
    have f1 := AutoSeq1.idx_int
    wp_walk using wpAny_loadPart' hl
    repeat (first
      | (refine wpAny_ite_false (decide_eq_false (by decide)) ?_; wp_walk using wpAny_loadPart' hl)
      | (refine wpAny_ite_false (decide_eq_false (by rw [c1]; exact Bool.false_ne_true)) ?_; wp_walk using wpAny_loadPart' hl)
      | (refine wpAny_ite_true (decide_eq_true (by simp)) ?_; wp_walk using wpAny_loadPart' hl))
    exact ⟨_, rfl, h⟩
def rRepS01 (K : PySem.W.Frag) : R2 := fun x y H Q => ∃ l k v, x = .ref l ∧ y = .int k ∧ SqT K H l [v] ∧ 0 ≤ k ∧ k ≤ 1000 ∧ ∀ (H' : Hp) (p : Addr), Same H H' → SqT K H' p (List.replicate k.toNat v) → Q (.ref p) H'
theorem op_repAny : OpR X (binaryOp .Mult) (rRepS01 X.K) := by
  intro pins s σ H x y v u Q I rx ry h
  obtain ⟨l, k, e, rfl, rfl, hT, h1, h2, q⟩ := h
  by_cases k2 : 2 ≤ k
  · refine op_repT pins s σ H _ _ v u Q I rx ry ⟨l, k, [e], rfl, rfl, hT, by simp, k2, h2, by simp, fun p np => q _ p (same_upd np) (SqT.of ?_)⟩
    rw [upd_same]
    congr 2
    have : ∀ n : Nat, (List.replicate n [e]).flatten = List.replicate n e := by
      intro n
      induction n with
      | zero => rfl
      | succ n ih => rw [List.replicate_succ, List.flatten_cons, ih]; rfl
    exact this _
  · cases rx
    obtain ⟨t, rfl⟩ := ry
    obtain ⟨its, r, ⟨⟨cls, dd, data, sl⟩, ho, hc, n, hd⟩, hs⟩ := I.tuple hT
    simp only at hc hd
    subst hc hd
    by_cases k1 : k = 1
    · subst k1
      refine wpAny_binaryOp_repeat_ref (T := "tuple") (U := "int") (by decide) ⟨_, ho, rfl⟩ (fun s' => typeIs_int s' 1 t) noFill_tuple_mul F.fills_int_mul F.slot_int_rmul repeat_tuple F.slot_int_index.lookup
        (call_meets F.slot_int_rmul (typeIs_int s 1 t) F.entry_int_rmul (F.args_int_rmul_2 _ _) (int_rmul_tuple 1 t l its.toArray n dd sl)
          ⟨ho, rfl, ⟨_, ho, rfl⟩, call_meets F.slot_tuple_mul ⟨_, ho, rfl⟩ F.entry_tuple_mul (F.args_tuple_mul_2 _ _) (tuple_mul1 l its.toArray n dd sl t) ⟨ho, ?_⟩⟩)
      exact ⟨.ref l, H, I, rfl, q H l (Same.refl H) hT⟩
    · have k0 : k = 0 := by omega
      subst k0
      have hi : (its.toArray.isEmpty || (0 : Int) == 1) = false := by
        cases its with
        | nil => cases r
        | cons a b => rfl
      refine wpAny_binaryOp_repeat_ref (T := "tuple") (U := "int") (by decide) ⟨_, ho, rfl⟩ (fun s' => typeIs_int s' 0 t) noFill_tuple_mul F.fills_int_mul F.slot_int_rmul repeat_tuple F.slot_int_index.lookup
        (call_meets F.slot_int_rmul (typeIs_int s 0 t) F.entry_int_rmul (F.args_int_rmul_2 _ _) (int_rmul_tuple 0 t l its.toArray n dd sl)
          ⟨ho, rfl, ⟨_, ho, rfl⟩, call_meets F.slot_tuple_mul ⟨_, ho, rfl⟩ F.entry_tuple_mul (F.args_tuple_mul_2 _ _) (tuple_mul0 l its.toArray n dd sl t hi) ⟨ho, ?_⟩⟩)
      refine ⟨.ref s.heap.objs.size, _, I.laid (t' := s.toks) (o := .tup []) (fun b ob q => Heap.get?_push_of_some _ q) (Nat.le_refl _) ?_, rfl, q _ _ (same_upd (I.hok.fresh (Nat.le_refl _))) (SqT.of upd_same)⟩
      exact ⟨by decide, _, .nil, IsTup.new _ _⟩
end
/-! ### data that keep off the box: how deep, how wide, how long their text is -/
mutual
def wt : PyData → Nat
  | .none => 1
  | .bool _ => 1
  | .int _ => 1
  | .str _ => 1
  | .list ds => wtAll ds + 1
  | .tuple ds => wtAll ds + 1
  | .dict _ => 1
def wtAll : List PyData → Nat
  | [] => 0
  | d :: ds => wt d + wtAll ds
end
mutual
def okD : PyData → Bool
  | .none => true
  | .bool _ => true
  | .int i => decide (i.natAbs < 10 ^ 21)
  | .str z => decide ((reprText z).length ≤ 62)
  | .list ds => okAll ds
  | .tuple ds => okAll ds
  | .dict _ => false
def okAll : List PyData → Bool
  | [] => true
  | d :: ds => okD d && okAll ds
end
theorem wt_pos : ∀ d : PyData, 1 ≤ wt d
  | .none => Nat.le_refl _
  | .bool _ => Nat.le_refl _
  | .int _ => Nat.le_refl _
  | .str _ => Nat.le_refl _
  | .list ds => by show 1 ≤ wtAll ds + 1; omega
  | .tuple ds => by show 1 ≤ wtAll ds + 1; omega
  | .dict _ => Nat.le_refl _
theorem wtAll_len : ∀ ds : List PyData, ds.length ≤ wtAll ds
  | [] => Nat.le_refl _
  | d :: ds => by
    have := wt_pos d
    have := wtAll_len ds
    show ds.length + 1 ≤ wt d + wtAll ds
    omega
theorem okD_int {i : Int} (h : i.natAbs < 10 ^ 21) : PyData.showable (.int i) = true ∧ (PyData.shown (.int i)).length ≤ 22 := by
  refine ⟨?_, ?_⟩
  · show decide (i.natAbs.log2 < 1920) = true
    refine decide_eq_true ?_
    by_cases z : i.natAbs = 0
    · rw [z]
      decide
    · have : i.natAbs.log2 < 70 := (Nat.log2_lt z).mpr (by
        have : (10 : Nat) ^ 21 < 2 ^ 70 := by decide
        omega)
      omega
  · show (Str.ofString (toString i)).length ≤ 22
    rw [PySem.ofString_length]
    cases i with
    | ofNat n =>
      show (Nat.repr n).length ≤ 22
      exact Nat.le_trans ((Nat.length_repr_le_iff (by decide)).mpr (show n < 10 ^ 21 from h)) (by decide)
    | negSucc n =>
      show (("-" : String) ++ Nat.repr (n + 1)).length ≤ 22
      rw [String.length_append]
      have : (Nat.repr (n + 1)).length ≤ 21 := (Nat.length_repr_le_iff (by decide)).mpr (show n + 1 < 10 ^ 21 from h)
      have e : ("-" : String).length = 1 := rfl
      omega
mutual
theorem okD_shown : ∀ {d : PyData}, okD d = true → d.showable = true ∧ d.hasDict = false ∧ d.shown.length + 2 ≤ 68 * wt d
  | .none, _ => ⟨rfl, rfl, by decide⟩
  | .bool b, _ => ⟨rfl, rfl, by cases b <;> decide⟩
  | .int i, h => by
    obtain ⟨h1, h2⟩ := okD_int (of_decide_eq_true h)
    refine ⟨h1, rfl, ?_⟩
    show _ ≤ 68 * 1
    omega
  | .str z, h => by
    have h : (reprText z).length ≤ 62 := of_decide_eq_true h
    refine ⟨rfl, rfl, ?_⟩
    show (reprText z).length + 2 ≤ 68 * 1
    omega
  | .list ds, h => by
    obtain ⟨h1, h2, h3⟩ := okAll_shown (ds := ds) h
    refine ⟨h1, h2, ?_⟩
    have := listText_le (PyData.shownAll ds)
    show (listText (PyData.shownAll ds)).length + 2 ≤ 68 * (wtAll ds + 1)
    omega
  | .tuple ds, h => by
    obtain ⟨h1, h2, h3⟩ := okAll_shown (ds := ds) h
    refine ⟨h1, h2, ?_⟩
    have := tupleText_le (PyData.shownAll ds)
    show (tupleText (PyData.shownAll ds)).length + 2 ≤ 68 * (wtAll ds + 1)
    omega
  | .dict _, h => nomatch h
theorem okAll_shown : ∀ {ds : List PyData}, okAll ds = true → PyData.showableAll ds = true ∧ PyData.hasDictAll ds = false ∧ piled (PyData.shownAll ds) ≤ 68 * wtAll ds
  | [], _ => ⟨rfl, rfl, Nat.zero_le _⟩
  | d :: ds, h => by
    have h : (okD d && okAll ds) = true := h
    rw [Bool.and_eq_true] at h
    obtain ⟨f1, f2, f3⟩ := okD_shown h.1
    obtain ⟨g1, g2, g3⟩ := okAll_shown h.2
    refine ⟨?_, ?_, ?_⟩
    · show (PyData.showable d && PyData.showableAll ds) = true
      rw [f1, g1]
      rfl
    · show (PyData.hasDict d || PyData.hasDictAll ds) = false
      rw [f2, g2]
      rfl
    · show piled (PyData.shown d :: PyData.shownAll ds) ≤ 68 * (wt d + wtAll ds)
      rw [piled_cons]
      omega
end
mutual
theorem okD_sm : ∀ {d : PyData} {n : Nat}, okD d = true → d.depth ≤ n → wt d ≤ 500 → Sm n d
  | .none, n, _, _, _ => .non n
  | .bool b, n, _, _, _ => .bl n b
  | .int i, n, _, _, _ => .int n i
  | .str z, n, _, _, _ => .str n z
  | .list ds, 0, _, h, _ => absurd h (by show ¬ PyData.depthAll ds + 1 ≤ 0; omega)
  | .list ds, n + 1, h1, h2, h3 => by
    have h2 : PyData.depthAll ds + 1 ≤ n + 1 := h2
    have h3 : wtAll ds + 1 ≤ 500 := h3
    have := wtAll_len ds
    exact .lst n (by omega) (okAll_sm (ds := ds) h1 (by omega) (by omega))
  | .tuple ds, 0, _, h, _ => absurd h (by show ¬ PyData.depthAll ds + 1 ≤ 0; omega)
  | .tuple ds, n + 1, h1, h2, h3 => by
    have h2 : PyData.depthAll ds + 1 ≤ n + 1 := h2
    have h3 : wtAll ds + 1 ≤ 500 := h3
    have := wtAll_len ds
    exact .tup n (by omega) (okAll_sm (ds := ds) h1 (by omega) (by omega))
  | .dict _, n, h, _, _ => nomatch h
theorem okAll_sm : ∀ {ds : List PyData} {n : Nat}, okAll ds = true → PyData.depthAll ds ≤ n → wtAll ds ≤ 500 → ∀ d ∈ ds, Sm n d
  | [], _, _, _, _ => fun d hd => nomatch hd
  | d :: ds, n, h1, h2, h3 => by
    have h1 : (okD d && okAll ds) = true := h1
    rw [Bool.and_eq_true] at h1
    have h2 : max (PyData.depth d) (PyData.depthAll ds) ≤ n := h2
    have h3 : wt d + wtAll ds ≤ 500 := h3
    have a1 := okD_sm (d := d) (n := n) h1.1 (by omega) (by omega)
    have a2 := okAll_sm (ds := ds) (n := n) h1.2 (by omega) (by omega)
    intro x hx
    rcases List.mem_cons.mp hx with e | hx
    · rw [e]
      exact a1
    · exact a2 x hx
end
structure TB (n k : Nat) (d : PyData) : Prop where
  ok : okD d = true
  dp : d.depth ≤ n
  wt : wt d ≤ k
structure TBs (n k : Nat) (ds : List PyData) : Prop where
  ok : okAll ds = true
  dp : PyData.depthAll ds ≤ n
  wt : wtAll ds ≤ k
theorem TB.mono {n m k j : Nat} {d : PyData} (h : TB n k d) (hn : n ≤ m) (hk : k ≤ j) : TB m j d := ⟨h.ok, Nat.le_trans h.dp hn, Nat.le_trans h.wt hk⟩
theorem TBs.mono {n m k j : Nat} {ds : List PyData} (h : TBs n k ds) (hn : n ≤ m) (hk : k ≤ j) : TBs m j ds := ⟨h.ok, Nat.le_trans h.dp hn, Nat.le_trans h.wt hk⟩
theorem TBs.nil {n : Nat} : TBs n 0 [] := ⟨rfl, Nat.zero_le _, Nat.le_refl _⟩
theorem TBs.cons {n k j : Nat} {d : PyData} {ds : List PyData} (h : TB n k d) (a : TBs n j ds) : TBs n (k + j) (d :: ds) := by
  refine ⟨?_, ?_, ?_⟩
  · show (okD d && okAll ds) = true
    rw [h.ok, a.ok]
    rfl
  · show max d.depth (PyData.depthAll ds) ≤ n
    have := h.dp
    have := a.dp
    omega
  · show Thr.wt d + wtAll ds ≤ k + j
    have := h.wt
    have := a.wt
    omega
theorem TBs.len {n k : Nat} {ds : List PyData} (h : TBs n k ds) : ds.length ≤ k := Nat.le_trans (wtAll_len ds) h.wt
theorem TBs.tup {n k : Nat} {ds : List PyData} (h : TBs n k ds) : TB (n + 1) (k + 1) (.tuple ds) := ⟨h.ok, Nat.succ_le_succ h.dp, Nat.succ_le_succ h.wt⟩
theorem TBs.lst {n k : Nat} {ds : List PyData} (h : TBs n k ds) : TB (n + 1) (k + 1) (.list ds) := ⟨h.ok, Nat.succ_le_succ h.dp, Nat.succ_le_succ h.wt⟩
theorem TB.sm {n k : Nat} {d : PyData} (h : TB n k d) (hk : k ≤ 500) : Sm n d := okD_sm h.ok h.dp (Nat.le_trans h.wt hk)
theorem TBs.mem {n k : Nat} : ∀ {ds : List PyData}, TBs n k ds → ∀ d ∈ ds, TB n k d
  | [], _, d, hd => nomatch hd
  | e :: ds, h, d, hd => by
    have h1 : (okD e && okAll ds) = true := h.ok
    rw [Bool.and_eq_true] at h1
    have h2 : max e.depth (PyData.depthAll ds) ≤ n := h.dp
    have h3 : Thr.wt e + wtAll ds ≤ k := h.wt
    rcases List.mem_cons.mp hd with rfl | hd
    · exact ⟨h1.1, by omega, by omega⟩
    · exact TBs.mem (k := k) ⟨h1.2, by omega, by omega⟩ d hd
theorem TBs.app {n k j : Nat} : ∀ {ds es : List PyData}, TBs n k ds → TBs n j es → TBs n (k + j) (ds ++ es)
  | [], es, h, a => a.mono (Nat.le_refl _) (Nat.le_add_left _ _)
  | d :: ds, es, h, a => by
    have h1 : (okD d && okAll ds) = true := h.ok
    rw [Bool.and_eq_true] at h1
    have h2 : max d.depth (PyData.depthAll ds) ≤ n := h.dp
    have h3 : Thr.wt d + wtAll ds ≤ k := h.wt
    have r : TBs n (wtAll ds + j) (ds ++ es) := TBs.app (k := wtAll ds) ⟨h1.2, by omega, Nat.le_refl _⟩ a
    have d0 : TB n (Thr.wt d) d := ⟨h1.1, by omega, Nat.le_refl _⟩
    exact (TBs.cons d0 r).mono (Nat.le_refl _) (by omega)
/-! ### off the box -/
section
variable {K : PySem.W.Frag} {a : Addr} {H H' : Hp}
theorem del_but (b : But a H H') : Same (del H a) (del H' a) := fun c o e => by
  by_cases z : c = a
  · rw [z, del_same] at e
    cases e
  · rw [del_ne z] at e ⊢
    exact b c o z e
theorem del_sub : Same (del H a) H := fun c o e => by
  by_cases z : c = a
  · rw [z, del_same] at e
    cases e
  · rw [del_ne z] at e
    exact e
theorem del_new {p : Addr} {o : HO} (ha : H a ≠ none) (hp : H p = none) : del (upd H p o) a p = some o := by
  have n : p ≠ a := fun z => ha (by rw [← z]; exact hp)
  rw [del_ne n, upd_same]
theorem del_keep {b : List V} (ha : H a = some (.lst b)) : KeepT H (del H a) := fun c o t h => by
  rw [del_ne (fun z => by
    rw [z, ha] at h
    cases h
    exact lst_no t)]
  exact h
theorem del_nw {o : HO} (ha : H a = some o) : Same (Nw H H') (del H' a) := fun c x e => by
  obtain ⟨h1, h2⟩ := Nw.get e
  rw [del_ne (fun z => by rw [z, ha] at h1; cases h1)]
  exact h2
end
def Bx (a : Addr) (m : Nat) (H : Hp) : Prop := ∃ b, H a = some (.lst b) ∧ BoxL m b
theorem Bx.ne {a : Addr} {m : Nat} {H : Hp} (h : Bx a m H) : H a ≠ none := by
  obtain ⟨b, h, _⟩ := h
  rw [h]
  simp
theorem Bx.same {a : Addr} {m : Nat} {H H' : Hp} (h : Bx a m H) (s : Same H H') : Bx a m H' := by
  obtain ⟨b, h, hb⟩ := h
  exact ⟨b, s _ _ h, hb⟩
theorem Bx.mono {a : Addr} {m n : Nat} {H : Hp} (h : Bx a m H) (l : m ≤ n) : Bx a n H := by
  obtain ⟨b, h, hb⟩ := h
  exact ⟨b, h, hb.mono l⟩
/-! ### what is made of such data, draws between -/
def tEv (K : PySem.W.Frag) (a : Addr) (c n k : Nat) (pre : L2.St → Hp → Prop) : TE := fun σ H Q => ∃ m, Bx a m H ∧ m + c < 900000 ∧ pre σ H ∧ ∀ H' v d, But a H H' → Bx a (m + c) H' → Dp K (del H' a) v d → TB n k d → Q v H'
def tEvs (K : PySem.W.Frag) (a : Addr) (c n k L : Nat) (pre : L2.St → Hp → Prop) : TA := fun σ H Q => ∃ m, Bx a m H ∧ m + c < 900000 ∧ pre σ H ∧ ∀ H' vs ds, But a H H' → Bx a (m + c) H' → DpAll K (del H' a) vs ds → TBs n k ds → vs.length = L → Q vs H'
def tEvm (K : PySem.W.Frag) (a : Addr) (c n k L : Nat) (pre : L2.St → Hp → Prop) : TA := fun σ H Q => ∃ m, Bx a m H ∧ m + c < 900000 ∧ pre σ H ∧ ∀ H' vs ds, But a H H' → Bx a (m + c) H' → DpAll K (del H' a) vs ds → (∀ d ∈ ds, TB n k d) → vs.length = L → Q vs H'
def Stb (a : Addr) (pre : L2.St → Hp → Prop) : Prop := ∀ σ H H' m, But a H H' → Bx a m H → pre σ H → pre σ H'
section
variable {X : Cx} {a : Addr} {c c' n k k' L : Nat} {pre : L2.St → Hp → Prop} {e : Expr} {es : List Expr} {pos : Pos}
theorem ev_of {t : TE} (he : PE X e t) (h : ∀ σ H Q, tEv X.K a c n k pre σ H Q → t σ H Q) : PE X e (tEv X.K a c n k pre) := ⟨fun pins s σ H Q I q => he.run pins s σ H Q I (h σ H Q q)⟩
theorem ev_val {t : TE} {v : V} {d : PyData} (he : PE X e t) (hd : ∀ H, Dp X.K H v d) (hb : TB n k d) (h : ∀ σ H (Q : VK), Q v H → t σ H Q) : PE X e (tEv X.K a 0 n k pre) :=
  ev_of he fun σ H Q ⟨m, hB, hm, _, q⟩ => h σ H Q (q H v d (But.refl a H) hB (hd _) hb)
theorem ev_var {i : Nat} {x : Str} {p : Pos} (he : PE X (.Name x p) (tVar i)) (hp : ∀ σ H, pre σ H → ∃ v d, σ[i]? = some (some v) ∧ Dp X.K (del H a) v d ∧ TB n k d) : PE X (.Name x p) (tEv X.K a 0 n k pre) :=
  ev_of he fun σ H Q ⟨m, hB, hm, hpre, q⟩ => by
    obtain ⟨v, d, h1, h2, h3⟩ := hp σ H hpre
    exact ⟨v, h1, q H v d (But.refl a H) hB h2 h3⟩
theorem ev_nil : PA X [] (tEvs X.K a 0 n 0 0 pre) := ⟨fun pos pins s σ H Q I ⟨m, hB, hm, _, q⟩ => pa_nil.run pos pins s σ H Q I (q H [] [] (But.refl a H) hB .nil .nil rfl)⟩
theorem ev_cons (hst : Stb a pre) (he : PE X e (tEv X.K a c n k pre)) (ha : PA X es (tEvs X.K a c' n k' L pre)) (hs : starEach (e :: es) X.env = (false, eval e X.env) :: starEach es X.env := by rfl) : PA X (e :: es) (tEvs X.K a (c + c') n (k + k') (L + 1) pre) := by
  refine ⟨fun pos pins s σ H Q I ⟨m, hB, hm, hpre, q⟩ => (pa_cons he ha hs).run pos pins s σ H Q I ?_⟩
  refine ⟨m, hB, by omega, hpre, fun H1 v d b1 hB1 hd ht => ⟨m + c, hB1, by omega, hst σ H H1 m b1 hB hpre, fun H2 vs ds b2 hB2 hds hts hL => ?_⟩⟩
  refine q H2 (v :: vs) (d :: ds) (b1.trans b2) (by rw [← Nat.add_assoc]; exact hB2) (.cons (dp_same (del_but b2) hd) hds) (.cons ht hts) (by rw [List.length_cons, hL])
theorem ev_tup {x1} (h : PA X es (tEvs X.K a c n k L pre)) (hk : k ≤ 1000) : PE X (.Tuple es x1 pos) (tEv X.K a c (n + 1) (k + 1) pre) := by
  refine ev_of (pe_tup h) fun σ H Q ⟨m, hB, hm, hpre, q⟩ => ⟨m, hB, hm, hpre, fun H1 vs ds b1 hB1 hds hts _ => ⟨?_, fun p np => ?_⟩⟩
  · rw [dpAll_len hds]
    exact Nat.le_trans hts.len (Nat.le_trans hk (by decide))
  · have s1 := same_upd (o := .tup vs) np
    exact q _ (.ref p) (.tuple ds) (b1.trans (But.of s1)) (hB1.same s1) (.tup (SqT.of (del_new hB1.ne np)) (dpAll_same (del_but (But.of s1)) hds)) hts.tup
theorem ev_lst (h : PA X es (tEvs X.K a c n k L pre)) (hk : k ≤ 1000) : PE X (.List es pos) (tEv X.K a c (n + 1) (k + 1) pre) := by
  refine ev_of (pe_lst h) fun σ H Q ⟨m, hB, hm, hpre, q⟩ => ⟨m, hB, hm, hpre, fun H1 vs ds b1 hB1 hds hts _ => ⟨?_, fun p np => ?_⟩⟩
  · rw [dpAll_len hds]
    exact Nat.le_trans hts.len (Nat.le_trans hk (by decide))
  · have s1 := same_upd (o := .lst vs) np
    exact q _ (.ref p) (.list ds) (b1.trans (But.of s1)) (hB1.same s1) (.lst (SqL.of (del_new hB1.ne np)) (dpAll_same (del_but (But.of s1)) hds)) hts.lst
theorem ev_up {c2 n2 k2 : Nat} (he : PE X e (tEv X.K a c n k pre)) (hc : c ≤ c2) (hn : n ≤ n2) (hk : k ≤ k2) : PE X e (tEv X.K a c2 n2 k2 pre) :=
  ev_of he fun σ H Q ⟨m, hB, hm, hpre, q⟩ => ⟨m, hB, by omega, hpre, fun H1 v d b1 hB1 hd ht => q H1 v d b1 (hB1.mono (by omega)) hd (ht.mono hn hk)⟩
theorem evm_nil : PA X [] (tEvm X.K a 0 n k 0 pre) := ⟨fun pos pins s σ H Q I ⟨m, hB, hm, _, q⟩ => pa_nil.run pos pins s σ H Q I (q H [] [] (But.refl a H) hB .nil (fun _ h => nomatch h) rfl)⟩
theorem evm_cons (hst : Stb a pre) (he : PE X e (tEv X.K a c n k pre)) (ha : PA X es (tEvm X.K a c' n k L pre)) (hs : starEach (e :: es) X.env = (false, eval e X.env) :: starEach es X.env := by rfl) : PA X (e :: es) (tEvm X.K a (c + c') n k (L + 1) pre) := by
  refine ⟨fun pos pins s σ H Q I ⟨m, hB, hm, hpre, q⟩ => (pa_cons he ha hs).run pos pins s σ H Q I ?_⟩
  refine ⟨m, hB, by omega, hpre, fun H1 v d b1 hB1 hd ht => ⟨m + c, hB1, by omega, hst σ H H1 m b1 hB hpre, fun H2 vs ds b2 hB2 hds hts hL => ?_⟩⟩
  refine q H2 (v :: vs) (d :: ds) (b1.trans b2) (by rw [← Nat.add_assoc]; exact hB2) (.cons (dp_same (del_but b2) hd) hds) (fun x hx => ?_) (by rw [List.length_cons, hL])
  rcases List.mem_cons.mp hx with rfl | hx
  · exact ht
  · exact hts x hx
end
/-! ### odd things -/
abbrev s__law_odd : Stmt := top 72
abbrev N__law_odd : List Str := ["_law_box", "_law_some"]
abbrev P__law_odd : List Str := ["_law_box"]
theorem sc__law_odd : FnScope N__law_odd P__law_odd (defScope s__law_odd) := ⟨rfl, rfl, rfl, by decide +kernel, rfl, by decide +kernel, by decide +kernel⟩
theorem stb_true {a : Addr} : Stb a (fun _ _ => True) := fun _ _ _ _ _ _ _ => trivial
def spOdd (K : PySem.W.Frag) : Sp := fun vs H Q _ => ∃ (a : Addr) (m : Nat), vs = [.ref a] ∧ Bx a m H ∧ m + 1 < 900000 ∧ ∀ H' v d, But a H H' → Bx a (m + 1) H' → Dp K (del H' a) v d → TB 2 50 d → Q v H'
theorem atI_some {xs : List V} {i : Int} (h0 : 0 ≤ i) (h1 : i < (xs.length : Int)) : ∃ v, atI xs i = some v ∧ v ∈ xs := by
  obtain ⟨n, rfl⟩ := Int.eq_ofNat_of_zero_le h0
  have hn : n < xs.length := by omega
  exact ⟨xs[n], atI_nat (by simp [hn]), List.getElem_mem hn⟩
theorem dpAll_mem {K : PySem.W.Frag} {H : Hp} {vs : List V} {ds : List PyData} (h : DpAll K H vs ds) {v : V} (hv : v ∈ vs) : ∃ d ∈ ds, Dp K H v d := by
  obtain ⟨i, hi, e⟩ := List.mem_iff_getElem.mp hv
  obtain ⟨d, h1, h2⟩ := dpAll_at h (i := i) (v := v) (by rw [← e]; simp [hi])
  exact ⟨d, List.mem_of_getElem? h1, h2⟩
section
variable {P : Program} {w : World} {K : PySem.W.Frag} {mg : Str → Option Value} {base : Heap}
theorem ok_odd (c_law_take : C8.Cal P w K mg base 1 "_law_take" spTake []) (D : Dd K mg "_law_odd" s__law_odd P__law_odd) : C8.Cal P w K mg base 2 "_law_odd" (spOdd K) [] := by
  refine D.cal sc__law_odd (fun vs H Q E h => ?_) (fun f cdv A outer s H vs Q E hr h => ?_)
  · obtain ⟨a, m, rfl, _⟩ := h
    rfl
  · obtain ⟨a, m, rfl, hB, hm, q⟩ := h
    refine ⟨_, (pss_cons (ps_set (i := 1) sc__law_odd.nd rfl (Or.inl rfl) (pe_lst (ev_cons (stb_true (a := a)) (ev_val (n := 2) (k := 1) pe_non (fun _ => .non) ⟨by decide +kernel, Nat.zero_le _, Nat.le_refl _⟩ (fun _ _ _ q => q)) (ev_cons (stb_true (a := a)) (ev_val (n := 2) (k := 1) pe_bl (fun _ => .bl _) ⟨by decide +kernel, Nat.zero_le _, Nat.le_refl _⟩ (fun _ _ _ q => q)) (ev_cons (stb_true (a := a)) (ev_val (n := 2) (k := 1) pe_bl (fun _ => .bl _) ⟨by decide +kernel, Nat.zero_le _, Nat.le_refl _⟩ (fun _ _ _ q => q)) (ev_cons (stb_true (a := a)) (ev_val (n := 2) (k := 1) pe_str (fun _ => .str _) ⟨by decide +kernel, Nat.zero_le _, Nat.le_refl _⟩ (fun _ _ _ q => q)) (ev_cons (stb_true (a := a)) (ev_val (n := 2) (k := 1) pe_str (fun _ => .str _) ⟨by decide +kernel, Nat.zero_le _, Nat.le_refl _⟩ (fun _ _ _ q => q)) (ev_cons (stb_true (a := a)) (ev_val (n := 2) (k := 1) pe_str (fun _ => .str _) ⟨by decide +kernel, Nat.zero_le _, Nat.le_refl _⟩ (fun _ _ _ q => q)) (ev_cons (stb_true (a := a)) (ev_val (n := 2) (k := 1) pe_int (fun _ => .int _) ⟨by decide +kernel, Nat.zero_le _, Nat.le_refl _⟩ (fun _ _ _ q => q)) (ev_cons (stb_true (a := a)) (ev_val (n := 2) (k := 1) (v := .int (-1)) (pe_un un_neg pe_int) (fun _ => .int _) ⟨by decide +kernel, Nat.zero_le _, Nat.le_refl _⟩ (fun _ _ _ q => ⟨1, rfl, q⟩)) (ev_cons (stb_true (a := a)) (ev_val (n := 2) (k := 1) (v := .int ((10 : Int) ^ (6 : Int).toNat)) (pe_op op_pow pe_int pe_int) (fun _ => .int _) ⟨by decide +kernel, Nat.zero_le _, Nat.le_refl _⟩ (fun _ _ _ q => ⟨10, 6, rfl, rfl, ⟨by decide, by decide, by decide⟩, q⟩)) (ev_cons (stb_true (a := a)) (ev_val (n := 2) (k := 1) (v := .int ((10 : Int) ^ (20 : Int).toNat)) (pe_op op_pow pe_int pe_int) (fun _ => .int _) ⟨by decide +kernel, Nat.zero_le _, Nat.le_refl _⟩ (fun _ _ _ q => ⟨10, 20, rfl, rfl, ⟨by decide, by decide, by decide⟩, q⟩)) (ev_cons (stb_true (a := a)) (ev_tup (n := 1) (ev_nil (a := a) (n := 1)) (by decide)) (ev_cons (stb_true (a := a)) (ev_lst (n := 1) (ev_nil (a := a) (n := 1)) (by decide)) (ev_cons (stb_true (a := a)) (ev_tup (n := 1) (ev_cons (stb_true (a := a)) (ev_val (n := 1) (k := 1) pe_str (fun _ => .str _) ⟨by decide +kernel, Nat.zero_le _, Nat.le_refl _⟩ (fun _ _ _ q => q)) (ev_nil (a := a) (n := 1))) (by decide)) (ev_cons (stb_true (a := a)) (ev_tup (n := 1) (ev_cons (stb_true (a := a)) (ev_val (n := 1) (k := 1) pe_str (fun _ => .str _) ⟨by decide +kernel, Nat.zero_le _, Nat.le_refl _⟩ (fun _ _ _ q => q)) (ev_cons (stb_true (a := a)) (ev_val (n := 1) (k := 1) pe_int (fun _ => .int _) ⟨by decide +kernel, Nat.zero_le _, Nat.le_refl _⟩ (fun _ _ _ q => q)) (ev_nil (a := a) (n := 1)))) (by decide)) (ev_cons (stb_true (a := a)) (ev_tup (n := 1) (ev_cons (stb_true (a := a)) (ev_val (n := 1) (k := 1) pe_str (fun _ => .str _) ⟨by decide +kernel, Nat.zero_le _, Nat.le_refl _⟩ (fun _ _ _ q => q)) (ev_cons (stb_true (a := a)) (ev_val (n := 1) (k := 1) pe_int (fun _ => .int _) ⟨by decide +kernel, Nat.zero_le _, Nat.le_refl _⟩ (fun _ _ _ q => q)) (ev_cons (stb_true (a := a)) (ev_lst (n := 0) (ev_nil (a := a) (n := 0)) (by decide)) (ev_nil (a := a) (n := 1))))) (by decide)) (ev_nil (a := a) (n := 2)))))))))))))))))))
        (pss_one (ps_ret (pe_ix ix_list (pe_op op_cat (pv 1) (pe_lst (ev_cons (stb_true (a := a)) (ev_tup (n := 1) (ev_cons (stb_true (a := a)) (ev_val (n := 1) (k := 1) pe_str (fun _ => .str _) ⟨by decide +kernel, Nat.zero_le _, Nat.le_refl _⟩ (fun _ _ _ q => q)) (ev_cons (stb_true (a := a)) (ev_val (n := 1) (k := 1) pe_int (fun _ => .int _) ⟨by decide +kernel, Nat.zero_le _, Nat.le_refl _⟩ (fun _ _ _ q => q)) (ev_cons (stb_true (a := a)) (ev_tup (n := 0) (ev_nil (a := a) (n := 0)) (by decide)) (ev_nil (a := a) (n := 1))))) (by decide)) (ev_cons (stb_true (a := a)) (ev_lst (n := 1) (ev_cons (stb_true (a := a)) (ev_val (n := 1) (k := 1) pe_str (fun _ => .str _) ⟨by decide +kernel, Nat.zero_le _, Nat.le_refl _⟩ (fun _ _ _ q => q)) (ev_cons (stb_true (a := a)) (ev_val (n := 1) (k := 1) pe_int (fun _ => .int _) ⟨by decide +kernel, Nat.zero_le _, Nat.le_refl _⟩ (fun _ _ _ q => q)) (ev_cons (stb_true (a := a)) (ev_tup (n := 0) (ev_nil (a := a) (n := 0)) (by decide)) (ev_nil (a := a) (n := 1))))) (by decide)) (ev_cons (stb_true (a := a)) (ev_tup (n := 1) (ev_cons (stb_true (a := a)) (ev_tup (n := 0) (ev_nil (a := a) (n := 0)) (by decide)) (ev_cons (stb_true (a := a)) (ev_val (n := 1) (k := 1) pe_int (fun _ => .int _) ⟨by decide +kernel, Nat.zero_le _, Nat.le_refl _⟩ (fun _ _ _ q => q)) (ev_cons (stb_true (a := a)) (ev_tup (n := 0) (ev_nil (a := a) (n := 0)) (by decide)) (ev_nil (a := a) (n := 1))))) (by decide)) (ev_cons (stb_true (a := a)) (ev_tup (n := 1) (ev_cons (stb_true (a := a)) (ev_val (n := 1) (k := 1) pe_non (fun _ => .non) ⟨by decide +kernel, Nat.zero_le _, Nat.le_refl _⟩ (fun _ _ _ q => q)) (ev_cons (stb_true (a := a)) (ev_val (n := 1) (k := 1) pe_int (fun _ => .int _) ⟨by decide +kernel, Nat.zero_le _, Nat.le_refl _⟩ (fun _ _ _ q => q)) (ev_cons (stb_true (a := a)) (ev_tup (n := 0) (ev_nil (a := a) (n := 0)) (by decide)) (ev_nil (a := a) (n := 1))))) (by decide)) (ev_cons (stb_true (a := a)) (ev_tup (n := 1) (ev_cons (stb_true (a := a)) (ev_lst (n := 0) (ev_nil (a := a) (n := 0)) (by decide)) (ev_cons (stb_true (a := a)) (ev_val (n := 1) (k := 1) pe_int (fun _ => .int _) ⟨by decide +kernel, Nat.zero_le _, Nat.le_refl _⟩ (fun _ _ _ q => q)) (ev_cons (stb_true (a := a)) (ev_tup (n := 0) (ev_nil (a := a) (n := 0)) (by decide)) (ev_nil (a := a) (n := 1))))) (by decide)) (ev_nil (a := a) (n := 2))))))))) (C8.pe_c c_law_take hr (by decide) (by rfl) (pa_cons (pv 0) (pa_cons pe_int pa_nil))) (fun _ _ => rfl))))), ?_⟩
    refine ⟨m, hB, by omega, trivial, fun H1 vs ds b1 hB1 hds hts lv => ⟨by rw [dpAll_len hds]; exact Nat.le_trans hts.len (by decide), fun p np => ?_⟩⟩
    have s1 := same_upd (o := .lst vs) np
    refine ⟨_, rfl, m, hB1.same s1, by omega, trivial, fun H2 ws es b2 hB2 hes hte lw => ⟨by rw [dpAll_len hes]; exact Nat.le_trans hte.len (by decide), fun p2 np2 => ?_⟩⟩
    have npa : p ≠ a := fun z => hB1.ne (by rw [← z]; exact np)
    have s2 := same_upd (o := .lst ws) np2
    have l1 := dpAll_len hds
    have l2 := dpAll_len hes
    have hp2 := s2 _ _ (b2 _ _ npa (upd_same (H := H1) (a := p) (o := .lst vs)))
    have t1 := hts.len
    have t2 := hte.len
    refine ⟨p, p2, vs, ws, rfl, rfl, hp2, upd_same, by rw [l1, l2]; exact Nat.le_trans (Nat.add_le_add t1 t2) (by decide), fun p3 np3 => ?_⟩
    have s3 := same_upd (o := .lst (vs ++ ws)) np3
    obtain ⟨H3, e3⟩ : ∃ H3, H3 = upd (upd H2 p2 (.lst ws)) p3 (.lst (vs ++ ws)) := ⟨_, rfl⟩
    have s23 : Same H2 H3 := e3 ▸ s2.trans s3
    have hp3 : H3 p3 = some (.lst (vs ++ ws)) := by rw [e3, upd_same]
    rw [← e3]
    have hB3 := hB2.same s23
    have bt3 : But a H H3 := ((b1.trans (But.of s1)).trans b2).trans (But.of s23)
    obtain ⟨b, hb, hbx⟩ := hB3
    refine ⟨_, rfl, a, 20, m, b, rfl, hb, hbx, by omega, by decide, by decide, fun r b' r0 r1 hbx' => ?_⟩
    have lvw : (vs ++ ws).length = 20 := by rw [List.length_append, lv, lw]
    obtain ⟨v, hat, hmem⟩ := atI_some (xs := vs ++ ws) r0 (by rw [lvw]; exact r1)
    have n3a : p3 ≠ a := fun z => (hB2.same s2).ne (by rw [← z]; exact np3)
    have hd3 : DpAll K (del H3 a) (vs ++ ws) (ds ++ es) := dpAll_appI (dpAll_same (del_but ((But.of s1).trans (b2.trans (But.of s23)))) hds) (dpAll_same (del_but (But.of s23)) hes)
    obtain ⟨d, hdm, hd⟩ := dpAll_mem hd3 hmem
    refine ⟨p3, _, r, v, rfl, rfl, SqL.of (by rw [upd_ne n3a]; exact hp3), hat, ?_⟩
    have bt4 : But a H3 (upd H3 a (.lst b')) := But.upd (But.refl a H3)
    exact q _ v d (bt3.trans bt4) ⟨b', upd_same, hbx'⟩ (dp_same (del_but bt4) hd) ((hts.app hte).mem d hdm |>.mono (by decide) (by decide))
end
/-- as before, off the box -/
def spPutD (K : PySem.W.Frag) (m : Nat) : Sp := fun vs H Q _ => ∃ (a : Addr) (bb : List V) (v x rv : V) (t u r : PyData) (s : List Int) (n k : Nat), vs = [v, x, rv] ∧ H a = some (.lst bb) ∧ Dp K (del H a) v t ∧ Tr n k t ∧ Dp K (del H a) x (pathD s) ∧ s.length ≤ m ∧ goD t (intsD s) = some u ∧ Dp K (del H a) rv r ∧ ∀ (H' : Hp) (uv : V), Same H H' → Dp K (del H' a) uv (putD t s r) → Q uv H'
theorem sqT_del {K : PySem.W.Frag} {H : Hp} {a p : Addr} {b xs : List V} (ha : H a = some (.lst b)) (h : SqT K H p xs) : SqT K (del H a) p xs := (del_keep ha).seqT h
theorem sqT_in {K : PySem.W.Frag} {H : Hp} {a p : Addr} {xs : List V} (h : SqT K (del H a) p xs) : SqT K H p xs := Same.seqT del_sub h
theorem dp_del {K : PySem.W.Frag} {H H' : Hp} {a : Addr} {v : V} {d : PyData} (s : Same H H') (h : Dp K (del H a) v d) : Dp K (del H' a) v d := dp_same (del_but (But.of s)) h
theorem dpAll_del {K : PySem.W.Frag} {H H' : Hp} {a : Addr} {v : List V} {d : List PyData} (s : Same H H') (h : DpAll K (del H a) v d) : DpAll K (del H' a) v d := dpAll_same (del_but (But.of s)) h
section
variable {P : Program} {w : World} {K : PySem.W.Frag} {mg : Str → Option Value} {base : Heap}
theorem ok_lputD (D : Dd K mg "_law_put" s__law_put P__law_put) : ∀ m, C8.Cal P w K mg base (m + 1) "_law_put" (spPutD K m) [] := by
  intro m
  induction m with
  | zero =>
    refine D.cal sc__law_put (fun vs H Q E h => ?_) (fun f cdv A outer s H vs Q E hr h => ?_)
    · obtain ⟨a, bb, v, x, rv, t, u, r, s, n, k, rfl, _⟩ := h
      rfl
    · obtain ⟨a, bb, v, x, rv, t, u, r, p, n, k, rfl, hbb, hv, tr, hx, hl, hgo, hrd, q⟩ := h
      have p0 : p = [] := List.eq_nil_of_length_eq_zero (by omega)
      subst p0
      have c_law_put : C8.Cal P w K mg base 0 "_law_put" (fun _ _ _ _ => False) [] := by
        obtain ⟨f, fd, F, g, b⟩ := D.ex
        exact ⟨f, fd, P__law_put, [], ⟨fun vs H Q E h => h.elim, fun B up t G ar ws xs R Z _ _ _ _ h => h.elim⟩, g, F.kp, b, .nil⟩
      refine ⟨_, (pss_cons (ps_if (pt_cmpR (op_eqD hr.units) (pv 1) (pe_tup pa_nil) (nomark _))
            (pss_one (ps_ret (pv 2)))
            pss_nil)
          (pss_cons (ps_par rfl sc__law_put.nd (i := 3) (j := 4) rfl rfl (by decide) rfl rfl (pa_cons (pe_ix ix_tup (pv 0) pe_int (fun _ _ => rfl)) (pa_cons (pe_ix ix_tup (pv 1) pe_int (fun _ _ => rfl)) pa_nil)) (by rfl))
          (pss_one (ps_ret (pe_tup (pa_cons (pe_ix ix_tup (pv 0) pe_int (fun _ _ => rfl)) (pa_cons (pe_ix ix_tup (pv 0) pe_int (fun _ _ => rfl)) (pa_cons (pe_op op_catAny (pe_op op_catAny (pe_slice sl_any (pv 3) po_none (po_some (pe_op op_sub (pv 4) pe_int))) (pe_tup (pa_cons (C8.pe_c c_law_put hr (by omega) (by rfl) (pa_cons (pe_ix ix_tup (pv 3) (pe_op op_sub (pv 4) pe_int) (fun _ _ => rfl)) (pa_cons (pe_slice sl_any (pv 1) (po_some pe_int) po_none) (pa_cons (pv 2) pa_nil)))) pa_nil))) (pe_slice sl_any (pv 3) (po_some (pv 4)) po_none)) pa_nil)))))))), ?_⟩
      obtain ⟨pq, rfl, hpS0⟩ := dp_path hx
      have hpS := sqT_in hpS0
      refine ⟨_, rfl, by show 0 ≤ sizeLine; decide, fun t0 nt0 => ?_⟩
      have k1 := same_upd (o := .tup []) nt0
      refine ⟨.tuple [], .tuple [], .tup (Same.seqT k1 hpS) .nil, .tup (SqT.of upd_same) .nil, by decide +kernel, by decide +kernel, _, rfl, ?_⟩
      exact ifT rfl ⟨_, rfl, q _ _ k1 (dp_del k1 hrd)⟩
  | succ m c_law_put =>
    refine D.cal sc__law_put (fun vs H Q E h => ?_) (fun f cdv A outer s H vs Q E hr h => ?_)
    · obtain ⟨a, bb, v, x, rv, t, u, r, s, n, k, rfl, _⟩ := h
      rfl
    · obtain ⟨a, bb, v, x, rv, t, u, r, p, n, k, rfl, hbb, hv, tr, hx, hl, hgo, hrd, q⟩ := h
      refine ⟨_, (pss_cons (ps_if (pt_cmpR (op_eqD hr.units) (pv 1) (pe_tup pa_nil) (nomark _))
            (pss_one (ps_ret (pv 2)))
            pss_nil)
          (pss_cons (ps_par rfl sc__law_put.nd (i := 3) (j := 4) rfl rfl (by decide) rfl rfl (pa_cons (pe_ix ix_tup (pv 0) pe_int (fun _ _ => rfl)) (pa_cons (pe_ix ix_tup (pv 1) pe_int (fun _ _ => rfl)) pa_nil)) (by rfl))
          (pss_one (ps_ret (pe_tup (pa_cons (pe_ix ix_tup (pv 0) pe_int (fun _ _ => rfl)) (pa_cons (pe_ix ix_tup (pv 0) pe_int (fun _ _ => rfl)) (pa_cons (pe_op op_catAny (pe_op op_catAny (pe_slice sl_any (pv 3) po_none (po_some (pe_op op_sub (pv 4) pe_int))) (pe_tup (pa_cons (C8.pe_c c_law_put hr (by omega) (by rfl) (pa_cons (pe_ix ix_tup (pv 3) (pe_op op_sub (pv 4) pe_int) (fun _ _ => rfl)) (pa_cons (pe_slice sl_any (pv 1) (po_some pe_int) po_none) (pa_cons (pv 2) pa_nil)))) pa_nil))) (pe_slice sl_any (pv 3) (po_some (pv 4)) po_none)) pa_nil)))))))), ?_⟩
      obtain ⟨pq, rfl, hpS0⟩ := dp_path hx
      have hpS := sqT_in hpS0
      refine ⟨_, rfl, by show 0 ≤ sizeLine; decide, fun t0 nt0 => ?_⟩
      have k1 := same_upd (o := .tup []) nt0
      have psh : SeqAt.shaped (pathD p) = true := by
        obtain ⟨g1, g2⟩ := ints_lay p
        unfold SeqAt.shaped
        rw [show PyData.canLay0 (pathD p) = true from g1, decide_eq_true (show PyData.depth (pathD p) ≤ 64 from by
          show PyData.depthAll (p.map PyData.int) + 1 ≤ 64
          omega)]
        rfl
      refine ⟨pathD p, .tuple [], dp_same (del_sub.trans k1) hx, .tup (SqT.of upd_same) .nil, psh, by decide +kernel, _, rfl, ?_⟩
      cases p with
      | nil => exact ifT rfl ⟨_, rfl, q _ _ k1 (dp_del k1 hrd)⟩
      | cons j s =>
        refine ifF rfl ?_
        obtain ⟨d, hst, hgo2⟩ := go_cons hgo
        obtain ⟨j1, j2, j3⟩ := step_is hst
        obtain ⟨n', k', _, htd⟩ := tr.part hst
        obtain ⟨q1, q2, z, i, us, rfl, hS10, hS20, hA2, hus, hre⟩ := tr_parts tr hv
        have hS1 := sqT_in hS10
        have hS2 := sqT_in hS20
        have lw := dpAll_len hA2
        obtain ⟨X1, e1⟩ : ∃ X1, X1 = upd H t0 (.tup []) := ⟨_, rfl⟩
        rw [← e1] at k1 ⊢
        have hS1' := Same.seqT k1 hS1
        have hS2' := Same.seqT k1 hS2
        have hpS' := Same.seqT k1 hpS
        refine ⟨_, rfl, q1, _, 2, .ref q2, rfl, rfl, hS1', atI_nat (j := 2) rfl, _, rfl, pq, _, 0, .int j, rfl, rfl, hpS', atI_nat (j := 0) rfl, _, _, rfl, ?_⟩
        refine ⟨_, rfl, q1, _, 0, .str z, rfl, rfl, hS1', atI_nat (j := 0) rfl, _, rfl, q1, _, 1, .int i, rfl, rfl, hS1', atI_nat (j := 1) rfl, ?_⟩
        refine ⟨_, rfl, _, rfl, _, _, rfl, rfl, _, rfl, q2, us, rfl, hS2', fun X2 p2 s2 hp2 => ?_⟩
        have hj : (j - 1).toNat < us.length := by omega
        obtain ⟨wv, hwv, hat⟩ := at_place hj j1
        obtain ⟨d', hd', hwd⟩ := dpAll_at hA2 hwv
        have ed : d' = d := by
          rw [j3] at hd'
          exact (Option.some.inj hd').symm
        subst ed
        have s12 := k1.trans s2
        refine ⟨_, rfl, _, rfl, _, _, rfl, rfl, q2, us, _, wv, rfl, rfl, Same.seqT s12 hS2, hat, ?_⟩
        refine ⟨_, rfl, _, rfl, pq, _, rfl, Same.seqT s12 hpS, fun X3 p3 s3 hp3 => ?_⟩
        have hp3 : SqT K X3 p3 (s.map V.int) := by
          have e := cutV_from ((j :: s).map V.int) 1
          have hp3 : SqT K X3 p3 (cutV ((j :: s).map V.int) (some ((1 : Nat) : Int)) none) := hp3
          rw [e] at hp3
          exact hp3
        have s13 := s12.trans s3
        have hb3 := s13 _ _ hbb
        have hp3d := path_dp (sqT_del hb3 hp3)
        refine ⟨_, rfl, a, bb, wv, .ref p3, rv, d', u, r, s, n', k', rfl, hb3, dp_del s13 hwd, htd, hp3d, by rw [List.length_cons] at hl; omega, hgo2, dp_del s13 hrd, fun X4 uv s4 huv => ?_⟩
        refine ⟨by show 1 ≤ sizeLine; decide, fun p5 n5 => ?_⟩
        have s5 := same_upd (o := .tup [uv]) n5
        have hc1 := cut_len us none (some (j - 1))
        have hc2 := cut_len us (some j) none
        refine ⟨p2, p5, _, [uv], rfl, rfl, Same.seqT ((s3.trans s4).trans s5) hp2, SqT.of upd_same, Nat.le_trans (show _ ≤ 3 from by
          show (cutV us none (some (j - 1))).length + 1 ≤ 3
          omega) (by decide), fun H6 p6 s6 hp6 => ?_⟩
        have s46 := (s4.trans s5).trans s6
        refine ⟨_, rfl, _, rfl, _, rfl, q2, us, rfl, Same.seqT (s13.trans s46) hS2, fun H7 p7 s7 hp7 => ?_⟩
        refine ⟨p6, p7, _, _, rfl, rfl, Same.seqT s7 hp6, hp7, Nat.le_trans (show _ ≤ 5 from by
          rw [List.length_append]
          show (cutV us none (some (j - 1))).length + 1 + (cutV us (some j) none).length ≤ 5
          omega) (by decide), fun H8 p8 s8 hp8 => ?_⟩
        refine ⟨by show 3 ≤ sizeLine; decide, fun p9 n9 => ?_⟩
        have s9 := same_upd (o := .tup [.str z, .int i, .ref p8]) n9
        have s49 := ((s46.trans s7).trans s8).trans s9
        have hb9 := (s13.trans s49) _ _ hbb
        refine q _ _ (s13.trans s49) ?_
        show Dp K (del _ a) (.ref p9) (reD t (setP (partsD t) j (putD ((partsD t).getD (j - 1).toNat .none) s r)))
        rw [getD_at j3, hre]
        refine .tup (sqT_del hb9 (SqT.of upd_same)) (.cons (.str _) (.cons (.int _) (.cons (.tup (sqT_del hb9 (Same.seqT s9 hp8)) ?_) .nil)))
        have e1 : cutV us none (some (j - 1)) = us.take (j - 1).toNat := by
          have := cutV_to us (j - 1).toNat
          rw [show (((j - 1).toNat : Nat) : Int) = j - 1 by omega] at this
          exact this
        have e2 : cutV us (some j) none = us.drop j.toNat := by
          have := cutV_from us j.toNat
          rw [show ((j.toNat : Nat) : Int) = j by omega] at this
          exact this
        rw [e1, e2]
        unfold setP
        have hA9 := dpAll_del (s13.trans s49) hA2
        exact dpAll_appI (dpAll_appI (dpAll_take _ hA9) (.cons (dp_del (((s5.trans s6).trans s7).trans (s8.trans s9)) huv) .nil)) (dpAll_drop _ hA9)
end
/-! ### a tree, bent somewhere -/
abbrev s__law_bent : Stmt := top 73
abbrev N__law_bent : List Str := ["_law_box", "_law_g", "_law_tree", "_law_path", "_law_node", "_law_making", "_law_own", "_law_parts", "_law_names", "_law_leaf", "_law_some"]
abbrev P__law_bent : List Str := ["_law_box", "_law_g", "_law_tree"]
theorem sc__law_bent : FnScope N__law_bent P__law_bent (defScope s__law_bent) := ⟨rfl, rfl, rfl, by decide +kernel, rfl, by decide +kernel, by decide +kernel⟩
theorem nm_text {z : Str} (h : Nm z) : (reprText z).length ≤ 62 := by
  obtain ⟨w, rfl, hw⟩ := h
  have := StrLaws.reprText_len (SX.S w) (fun c hc => Nat.lt_trans (let_small (hw.1.2.2 c hc)) (by decide))
  have hl := SX.S_len w
  have := hw.1.2.1
  omega
theorem tb_str {n : Nat} {z : Str} (h : Nm z) : TB n 1 (.str z) := ⟨decide_eq_true (nm_text h), Nat.zero_le _, Nat.le_refl _⟩
theorem tb_int {n : Nat} {i : Int} (h0 : 0 ≤ i) (h1 : i < 1000000) : TB n 1 (.int i) := ⟨decide_eq_true (by
  have : (1000000 : Nat) < 10 ^ 21 := by decide
  omega), Nat.zero_le _, Nat.le_refl _⟩
mutual
theorem Tr.tb : ∀ {n k : Nat} {d : PyData}, Tr n k d → TB (2 * n) (4 * k) d
  | _, _, _, .mk (n := n) (k := k) (z := z) (i := i) (ds := ds) hz h0 h1 hl h => by
    have a := TrAll.tbs h
    have t3 := TBs.cons (tb_str (n := 2 * n + 1) hz) (TBs.cons (tb_int h0 h1) (TBs.cons a.tup TBs.nil))
    exact (TBs.tup t3).mono (by omega) (by omega)
theorem TrAll.tbs : ∀ {n k : Nat} {ds : List PyData}, TrAll n k ds → TBs (2 * n) (4 * k) ds
  | _, _, _, .nil _ => TBs.nil
  | _, _, _, .cons h a => (TBs.cons (Tr.tb h) (TrAll.tbs a)).mono (Nat.le_refl _) (by omega)
end
theorem TBs.sub {n k : Nat} : ∀ {ds es : List PyData}, es.Sublist ds → TBs n k ds → TBs n k es
  | _, _, .slnil, h => h
  | _ :: ds, _, .cons d s, h => by
    have h1 : (okD d && okAll ds) = true := h.ok
    rw [Bool.and_eq_true] at h1
    have h2 : max d.depth (PyData.depthAll ds) ≤ n := h.dp
    have h3 : Thr.wt d + wtAll ds ≤ k := h.wt
    exact TBs.sub s ⟨h1.2, by omega, by omega⟩
  | _ :: ds, _ :: es, .cons₂ d s, h => by
    have h1 : (okD d && okAll ds) = true := h.ok
    rw [Bool.and_eq_true] at h1
    have h2 : max d.depth (PyData.depthAll ds) ≤ n := h.dp
    have h3 : Thr.wt d + wtAll ds ≤ k := h.wt
    have r : TBs n (wtAll ds) es := TBs.sub s ⟨h1.2, by omega, Nat.le_refl _⟩
    exact (TBs.cons (k := Thr.wt d) ⟨h1.1, by omega, Nat.le_refl _⟩ r).mono (Nat.le_refl _) h3
theorem TBs.rev {n k : Nat} : ∀ {ds : List PyData}, TBs n k ds → TBs n k ds.reverse
  | [], h => h
  | d :: ds, h => by
    have h1 : (okD d && okAll ds) = true := h.ok
    rw [Bool.and_eq_true] at h1
    have h2 : max d.depth (PyData.depthAll ds) ≤ n := h.dp
    have h3 : Thr.wt d + wtAll ds ≤ k := h.wt
    rw [List.reverse_cons]
    have r : TBs n (wtAll ds) ds.reverse := TBs.rev ⟨h1.2, by omega, Nat.le_refl _⟩
    have d0 : TBs n (Thr.wt d + 0) [d] := TBs.cons (k := Thr.wt d) ⟨h1.1, by omega, Nat.le_refl _⟩ TBs.nil
    exact (r.app d0).mono (Nat.le_refl _) (by omega)
theorem TBs.rep {n k : Nat} {d : PyData} (h : TB n k d) : ∀ m, TBs n (m * k) (List.replicate m d)
  | 0 => by
    rw [Nat.zero_mul]
    exact TBs.nil
  | m + 1 => by
    rw [List.replicate_succ, Nat.succ_mul, Nat.add_comm]
    exact TBs.cons h (TBs.rep h m)
/-- another part in a tree's place: still small -/
theorem wt_app (xs ys : List PyData) : wtAll (xs ++ ys) = wtAll xs + wtAll ys := by
  induction xs with
  | nil => exact (Nat.zero_add _).symm
  | cons x xs ihx =>
    show Thr.wt x + wtAll (xs ++ ys) = Thr.wt x + wtAll xs + wtAll ys
    rw [ihx, Nat.add_assoc]
theorem put_tbw : ∀ (s : List Int) {n k m j M : Nat} {t u r : PyData}, Tr n k t → goD t (intsD s) = some u → TB m j r → 2 * n ≤ M → 2 * s.length + m ≤ M → TB M (Thr.wt t + j) (putD t s r)
  | [], n, k, m, j, M, t, u, r, ht, hg, hr, hM, hs => hr.mono (by rw [List.length_nil] at hs; omega) (by omega)
  | i :: s, n, k, m, j, M, t, u, r, ht, hg, hr, hM, hs => by
    obtain ⟨d, hst, hgo⟩ := go_cons hg
    obtain ⟨j1, j2, j3⟩ := step_is hst
    rw [List.length_cons] at hs
    cases ht with
    | mk hz h0 h1 hl ha =>
      rename_i n k z i0 ds
      obtain ⟨M, rfl⟩ : ∃ M', M = M' + 2 := ⟨M - 2, by omega⟩
      have j3 : ds[(i - 1).toNat]? = some d := j3
      obtain ⟨kd, _, htd⟩ := ha.mem j3
      have ih := put_tbw s (M := M) htd hgo hr (by omega) (by omega)
      have tbs := TrAll.tbs ha
      show TB _ _ (.tuple [.str z, .int i0, .tuple (setP ds i (putD (ds.getD (i - 1).toNat .none) s r))])
      rw [getD_at j3]
      have split : ds.take (i - 1).toNat ++ [d] ++ ds.drop i.toNat = ds := setP_self j1 j3
      have hw : wtAll ds = wtAll (ds.take (i - 1).toNat) + (Thr.wt d + 0) + wtAll (ds.drop i.toNat) := by
        have := congrArg wtAll split
        rw [wt_app, wt_app] at this
        exact this.symm
      have tk : ∀ (xs : List PyData), xs.Sublist ds → TBs M (wtAll xs) xs := fun xs h => by
        have := TBs.sub h tbs
        exact ⟨this.ok, Nat.le_trans this.dp (by omega), Nat.le_refl _⟩
      have ta := tk _ (List.take_sublist (i - 1).toNat ds)
      have td := tk _ (List.drop_sublist i.toNat ds)
      have big := (ta.app ((TBs.cons ih TBs.nil))).app td
      have t3 := TBs.cons (tb_str (n := M + 1) hz) (TBs.cons (tb_int h0 h1) (TBs.cons big.tup TBs.nil))
      refine (TBs.tup t3).mono (by omega) ?_
      show _ ≤ (1 + (1 + (wtAll ds + 1 + 0))) + 1 + j
      omega
theorem go_deep : ∀ (s : List Int) {n k : Nat} {t u : PyData}, Tr n k t → goD t (intsD s) = some u → ∃ n' k', n' + s.length = n ∧ k' ≤ k ∧ Tr n' k' u
  | [], n, k, t, u, ht, hg => ⟨n, k, rfl, Nat.le_refl _, by
    cases hg
    exact ht⟩
  | i :: s, n, k, t, u, ht, hg => by
    obtain ⟨d, hst, hgo⟩ := go_cons hg
    obtain ⟨j1, j2, j3⟩ := step_is hst
    cases ht with
    | mk hz h0 h1 hl ha =>
      rename_i n k z i0 ds
      obtain ⟨kd, hkd, htd⟩ := ha.mem (show ds[(i - 1).toNat]? = some d from j3)
      obtain ⟨n', k', e1, e2, e3⟩ := go_deep s htd hgo
      exact ⟨n', k', by rw [List.length_cons]; omega, by omega, e3⟩
/-- what stands while it is bent -/
def BPre (K : PySem.W.Frag) (nd : Nat) (a : Addr) : L2.St → Hp → Prop := fun σ H => ∃ (x1 x2 x3 x4 x10 : Option V) (z : Str) (i : Int) (q2 ln : Addr) (lv : V) (us ns : List V) (ds : List PyData) (nds : List PyData) (ld : PyData),
  σ = [some (.ref a), x1, x2, x3, x4, some (.str z), some (.int i), some (.ref q2), some (.ref ln), some lv, x10] ∧ Nm z ∧ 0 ≤ i ∧ i < 1000000 ∧ SqT K (del H a) q2 us ∧ DpAll K (del H a) us ds ∧ TBs nd 140 ds ∧ us.length ≤ 2 ∧
  del H a ln = some (.lst ns) ∧ DpAll K (del H a) ns nds ∧ (∀ d ∈ nds, TB 0 1 d) ∧ 0 < ns.length ∧ ns.length ≤ 20 ∧ Dp K (del H a) lv ld ∧ TB 2 4 ld
theorem bent_stb {K : PySem.W.Frag} {nd : Nat} {a : Addr} : Stb a (BPre K nd a) := by
  rintro σ H H' m b hB ⟨x1, x2, x3, x4, x10, z, i, q2, ln, lv, us, ns, ds, nds, ld, e, h1, h2, h3, h4, h5, h6, h7, h8, h9, h10, h11, h12, h13, h14⟩
  have s := del_but b
  exact ⟨x1, x2, x3, x4, x10, z, i, q2, ln, lv, us, ns, ds, nds, ld, e, h1, h2, h3, Same.seqT s h4, dpAll_same s h5, h6, h7, s _ _ h8, dpAll_same s h9, h10, h11, h12, dp_same s h13, h14⟩
section
variable {K : PySem.W.Frag} {nd : Nat} {a : Addr}
theorem bent_mk {n : Nat} : ∀ σ H, BPre K nd a σ H → ∃ v d, σ[5]? = some (some v) ∧ Dp K (del H a) v d ∧ TB n 1 d := by
  rintro σ H ⟨x1, x2, x3, x4, x10, z, i, q2, ln, lv, us, ns, ds, nds, ld, rfl, h1, h2, h3, h4, h5, h6, h7, h8, h9, h10, h11, h12, h13, h14⟩
  exact ⟨_, _, rfl, .str z, tb_str h1⟩
theorem bent_own {n : Nat} : ∀ σ H, BPre K nd a σ H → ∃ v d, σ[6]? = some (some v) ∧ Dp K (del H a) v d ∧ TB n 1 d := by
  rintro σ H ⟨x1, x2, x3, x4, x10, z, i, q2, ln, lv, us, ns, ds, nds, ld, rfl, h1, h2, h3, h4, h5, h6, h7, h8, h9, h10, h11, h12, h13, h14⟩
  exact ⟨_, _, rfl, .int i, tb_int h2 h3⟩
theorem bent_parts {n : Nat} (hn : nd + 1 ≤ n := by omega) : ∀ σ H, BPre K nd a σ H → ∃ v d, σ[7]? = some (some v) ∧ Dp K (del H a) v d ∧ TB n 141 d := by
  rintro σ H ⟨x1, x2, x3, x4, x10, z, i, q2, ln, lv, us, ns, ds, nds, ld, rfl, h1, h2, h3, h4, h5, h6, h7, h8, h9, h10, h11, h12, h13, h14⟩
  exact ⟨_, _, rfl, .tup h4 h5, h6.tup.mono hn (Nat.le_refl _)⟩
theorem bent_one {n : Nat} : ∀ σ H Q, tEv K a 1 n 1 (BPre K nd a) σ H Q → tCall (spOneOf K) [] C8.E0 (tCons (tVar 0) (tCons (tVar 8) tNil)) σ H Q := by
  rintro σ H Q ⟨m, ⟨b, hb, hB⟩, hm, ⟨x1, x2, x3, x4, x10, z, i, q2, ln, lv, us, ns, ds, nds, ld, rfl, h1, h2, h3, h4, h5, h6, h7, h8, h9, h10, h11, h12, h13, h14⟩, q⟩
  have na : ln ≠ a := fun z => by
    rw [z, del_same] at h8
    cases h8
  refine ⟨_, rfl, _, rfl, a, ln, m, b, ns, rfl, hb, hB, by omega, SqL.of (del_sub _ _ h8), na, h11, by omega, fun j v b' hv hB' => ?_⟩
  obtain ⟨d, hd, hdv⟩ := dpAll_at h9 hv
  have bt : But a H (upd H a (.lst b')) := But.upd (But.refl a H)
  exact q _ v d bt ⟨b', upd_same, hB'⟩ (dp_same (del_but bt) hdv) ((h10 d (List.mem_of_getElem? hd)).mono (Nat.zero_le _) (Nat.le_refl _))
theorem bent_odd {n : Nat} (hn : 2 ≤ n := by omega) : ∀ σ H Q, tEv K a 1 n 50 (BPre K nd a) σ H Q → tCall (spOdd K) [] C8.E0 (tCons (tVar 0) tNil) σ H Q := by
  rintro σ H Q ⟨m, hB, hm, ⟨x1, x2, x3, x4, x10, z, i, q2, ln, lv, us, ns, ds, nds, ld, rfl, h1, h2, h3, h4, h5, h6, h7, h8, h9, h10, h11, h12, h13, h14⟩, q⟩
  exact ⟨_, rfl, a, m, rfl, hB, by omega, fun H' v d bt hB' hd ht => q H' v d bt hB' hd (ht.mono hn (Nat.le_refl _))⟩
theorem bent_four {n : Nat} : ∀ σ H Q, tEv K a 0 n 1 (BPre K nd a) σ H Q → tOp (rIxL K) (tLst (tCons (tUn (rU fun i => .int (-i)) (tC (.int 1))) (tCons (tOp (rI CPow fun i j => .int (i ^ j.toNat)) (tC (.int 10)) (tC (.int 6))) (tCons (tOp (rI0 fun i j => .int (i - j)) (tOp (rI CPow fun i j => .int (i ^ j.toNat)) (tC (.int 10)) (tC (.int 6))) (tC (.int 1))) (tCons (tC (.bl true)) tNil))))) (tOp (rI (fun _ j => 0 < j) fun i j => .int (i % j)) (tVar 6) (tC (.int 4))) σ H Q := by
  rintro σ H Q ⟨m, hB, hm, ⟨x1, x2, x3, x4, x10, z, i, q2, ln, lv, us, ns, ds, nds, ld, rfl, h1, h2, h3, h4, h5, h6, h7, h8, h9, h10, h11, h12, h13, h14⟩, q⟩
  have cp : CPow 10 6 := ⟨by decide, by decide, by decide⟩
  refine ⟨_, rfl, 10, 6, rfl, rfl, cp, 10, 6, rfl, rfl, cp, _, _, rfl, rfl, by show 4 ≤ sizeLine; decide, fun p np => ?_⟩
  have s1 := same_upd (o := .lst [.int (-1), .int ((10 : Int) ^ (6 : Int).toNat), .int ((10 : Int) ^ (6 : Int).toNat - 1), .bl true]) np
  refine ⟨_, rfl, i, 4, rfl, rfl, by show (0 : Int) < 4; decide, ?_⟩
  have tb : ∀ v ∈ [V.int (-1), .int ((10 : Int) ^ (6 : Int).toNat), .int ((10 : Int) ^ (6 : Int).toNat - 1), .bl true], ∃ d, Dp K (del (upd H p (.lst [.int (-1), .int ((10 : Int) ^ (6 : Int).toNat), .int ((10 : Int) ^ (6 : Int).toNat - 1), .bl true])) a) v d ∧ TB n 1 d := by
    intro v hv
    simp only [List.mem_cons, List.not_mem_nil, or_false] at hv
    rcases hv with rfl | rfl | rfl | rfl
    · exact ⟨_, .int _, ⟨by decide +kernel, Nat.zero_le _, Nat.le_refl _⟩⟩
    · exact ⟨_, .int _, ⟨by decide +kernel, Nat.zero_le _, Nat.le_refl _⟩⟩
    · exact ⟨_, .int _, ⟨by decide +kernel, Nat.zero_le _, Nat.le_refl _⟩⟩
    · exact ⟨_, .bl _, ⟨rfl, Nat.zero_le _, Nat.le_refl _⟩⟩
  obtain ⟨v, hat, hmem⟩ := atI_some (xs := [V.int (-1), .int ((10 : Int) ^ (6 : Int).toNat), .int ((10 : Int) ^ (6 : Int).toNat - 1), .bl true]) (i := i % 4) (by omega) (by show i % 4 < 4; omega)
  obtain ⟨d, hd, ht⟩ := tb v hmem
  exact ⟨p, _, i % 4, v, rfl, rfl, SqL.of upd_same, hat, q _ v d (But.of s1) (hB.same s1) hd ht⟩
theorem bent_list {n : Nat} (hn : nd + 1 ≤ n := by omega) : ∀ σ H Q, tEv K a 0 n 141 (BPre K nd a) σ H Q → tCB (fun xs H Q => ∃ p ys, xs = [.ref p] ∧ (SqL K H p ys ∨ SqT K H p ys) ∧ ∀ l, H l = none → Q (.ref l) (upd H l (.lst ys))) (tCons (tVar 7) tNil) σ H Q := by
  rintro σ H Q ⟨m, hB, hm, ⟨x1, x2, x3, x4, x10, z, i, q2, ln, lv, us, ns, ds, nds, ld, rfl, h1, h2, h3, h4, h5, h6, h7, h8, h9, h10, h11, h12, h13, h14⟩, q⟩
  refine ⟨_, rfl, q2, us, rfl, .inr (sqT_in h4), fun l nl => ?_⟩
  have s1 := same_upd (o := .lst us) nl
  exact q _ _ _ (But.of s1) (hB.same s1) (.lst (SqL.of (del_new hB.ne nl)) (dpAll_same (del_but (But.of s1)) h5)) (h6.lst.mono hn (Nat.le_refl _))
theorem bent_cat {n : Nat} (hn : nd + 1 ≤ n := by omega) (h2' : 2 ≤ nd := by omega) : ∀ σ H Q, tEv K a 0 n 145 (BPre K nd a) σ H Q → tOp (rCatAny K) (tVar 7) (tTup (tCons (tVar 9) tNil)) σ H Q := by
  rintro σ H Q ⟨m, hB, hm, ⟨x1, x2, x3, x4, x10, z, i, q2, ln, lv, us, ns, ds, nds, ld, rfl, h1, h2, h3, h4, h5, h6, h7, h8, h9, h10, h11, h12, h13, h14⟩, q⟩
  refine ⟨_, rfl, _, rfl, by show 1 ≤ sizeLine; decide, fun p np => ?_⟩
  have s1 := same_upd (o := .tup [lv]) np
  refine ⟨q2, p, us, [lv], rfl, rfl, Same.seqT s1 (sqT_in h4), SqT.of upd_same, Nat.le_trans (show us.length + 1 ≤ 3 by omega) (by decide), fun H2 p2 s2 hp2 => ?_⟩
  have s12 := s1.trans s2
  obtain ⟨b, hb, hbx⟩ := hB
  have hb2 := s12 _ _ hb
  refine q H2 _ _ (But.of s12) ⟨b, hb2, hbx⟩ (.tup (sqT_del hb2 hp2) (dpAll_appI (dpAll_same (del_but (But.of s12)) h5) (.cons (dp_same (del_but (But.of s12)) h13) .nil))) ?_
  have t := h6.app (TBs.cons (h14.mono h2' (Nat.le_refl _)) TBs.nil)
  exact t.tup.mono hn (by decide)
theorem bent_sl {n : Nat} (hn : nd + 1 ≤ n := by omega) : ∀ σ H Q, tEv K a 0 n 141 (BPre K nd a) σ H Q → tSl (rSlAny K) (tVar 7) (tPart (tC (.int 1))) tNoPart σ H Q := by
  rintro σ H Q ⟨m, hB, hm, ⟨x1, x2, x3, x4, x10, z, i, q2, ln, lv, us, ns, ds, nds, ld, rfl, h1, h2, h3, h4, h5, h6, h7, h8, h9, h10, h11, h12, h13, h14⟩, q⟩
  refine ⟨_, rfl, 1, rfl, q2, us, rfl, sqT_in h4, fun H2 p s2 hp => ?_⟩
  have e := cutV_from us 1
  have hp : SqT K H2 p (cutV us (some ((1 : Nat) : Int)) none) := hp
  rw [e] at hp
  obtain ⟨b, hb, hbx⟩ := hB
  have hb2 := s2 _ _ hb
  exact q H2 _ _ (But.of s2) ⟨b, hb2, hbx⟩ (.tup (sqT_del hb2 hp) (dpAll_drop 1 (dpAll_same (del_but (But.of s2)) h5))) ((TBs.sub (List.drop_sublist 1 ds) h6).tup.mono hn (Nat.le_refl _))
theorem dpAll_revI {H : Hp} : ∀ {vs : List V} {ds : List PyData}, DpAll K H vs ds → DpAll K H vs.reverse ds.reverse
  | _, _, .nil => .nil
  | _, _, .cons h a => by
    rw [List.reverse_cons, List.reverse_cons]
    exact dpAll_appI (dpAll_revI a) (.cons h .nil)
theorem bent_rev {n : Nat} (hn : nd + 1 ≤ n := by omega) : ∀ σ H Q, tEv K a 0 n 141 (BPre K nd a) σ H Q → tRevT K (tVar 7) σ H Q := by
  rintro σ H Q ⟨m, hB, hm, ⟨x1, x2, x3, x4, x10, z, i, q2, ln, lv, us, ns, ds, nds, ld, rfl, h1, h2, h3, h4, h5, h6, h7, h8, h9, h10, h11, h12, h13, h14⟩, q⟩
  refine ⟨_, rfl, q2, us, rfl, sqT_in h4, fun p np => ?_⟩
  have s1 := same_upd (o := .tup us.reverse) np
  exact q _ _ _ (But.of s1) (hB.same s1) (.tup (SqT.of (del_new hB.ne np)) (dpAll_revI (dpAll_same (del_but (But.of s1)) h5))) (h6.rev.tup.mono hn (Nat.le_refl _))
theorem dpAll_repV {H : Hp} {v : V} {d : PyData} (h : Dp K H v d) : ∀ m, DpAll K H (List.replicate m v) (List.replicate m d)
  | 0 => .nil
  | m + 1 => .cons h (dpAll_repV h m)
theorem bent_rep {n : Nat} (hn : 3 ≤ n := by omega) : ∀ σ H Q, tEv K a 1 n 101 (BPre K nd a) σ H Q → tOp (rRepS01 K) (tTup (tCons (tCall (spOdd K) [] C8.E0 (tCons (tVar 0) tNil)) tNil)) (tCB (fun xs H Q => ∃ p ys, xs = [.ref p] ∧ (SqL K H p ys ∨ SqT K H p ys) ∧ Q (.int ys.length) H) (tCons (tVar 7) tNil)) σ H Q := by
  rintro σ H Q ⟨m, hB, hm, ⟨x1, x2, x3, x4, x10, z, i, q2, ln, lv, us, ns, ds, nds, ld, rfl, h1, h2, h3, h4, h5, h6, h7, h8, h9, h10, h11, h12, h13, h14⟩, q⟩
  refine ⟨_, rfl, a, m, rfl, hB, by omega, fun H1 v d bt hB1 hd ht => ⟨by show 1 ≤ sizeLine; decide, fun p np => ?_⟩⟩
  have s1 := same_upd (o := .tup [v]) np
  have b1 := bt.trans (But.of s1)
  refine ⟨_, rfl, q2, us, rfl, .inr (sqT_in (Same.seqT (del_but b1) h4)), p, ((us.length : Nat) : Int), v, rfl, rfl, SqT.of upd_same, by omega, by omega, fun H2 p2 s2 hp2 => ?_⟩
  obtain ⟨b, hb, hbx⟩ := hB1
  have s12 := s1.trans s2
  have hb2 := s12 _ _ hb
  have hp2 : SqT K H2 p2 (List.replicate us.length v) := hp2
  refine q H2 _ _ (bt.trans (But.of s12)) ⟨b, hb2, hbx⟩ (.tup (sqT_del hb2 hp2) (dpAll_repV (dp_same (del_but (But.of s12)) hd) us.length)) ?_
  have t := TBs.rep ht us.length
  refine t.tup.mono hn ?_
  have : us.length * 50 ≤ 2 * 50 := Nat.mul_le_mul_right 50 h7
  omega
end


def spBent (K : PySem.W.Frag) : Sp := fun vs H Q _ => ∃ (a gd : Addr) (v : V) (rs : List SRow) (ms : List MRow) (ru : List RRow) (roof m k : Nat) (t : PyData), vs = [.ref a, .ref gd, v] ∧ GramIn K H a gd rs ms ru roof ∧ GramOk rs ms ru roof ∧ Bx a m H ∧ m + 30 < 900000 ∧ Dp K H v t ∧ Tr 28 k t ∧ k ≤ 35 ∧
  ∀ H' v' d', But a H H' → Bx a (m + 30) H' → Dp K (del H' a) v' d' → TB 113 400 d' → Q v' H'
theorem dpAll_in {K : PySem.W.Frag} {H : Hp} {a : Addr} {vs : List V} {ds : List PyData} (h : DpAll K (del H a) vs ds) : DpAll K H vs ds := dpAll_same del_sub h
theorem dp_delT {K : PySem.W.Frag} {H : Hp} {a : Addr} {b : List V} {v : V} {n k : Nat} {d : PyData} (ha : H a = some (.lst b)) (h : Dp K H v d) (t : Tr n k d) : Dp K (del H a) v d := dp_imm (del_keep ha) h t.imm
section
variable {P : Program} {w : World} {K : PySem.W.Frag} {mg : Str → Option Value} {base : Heap}
structure Be (mg : Str → Option Value) : Prop where
  sorted : mg "sorted" = none
  list : mg "list" = none
  len : mg "len" = none
/-- what has been made so far -/
def BAcc (K : PySem.W.Frag) (a p : Addr) (L nd : Nat) (H : Hp) : Prop := p ≠ a ∧ ∃ vs ds, H p = some (.lst vs) ∧ DpAll K (del H a) vs ds ∧ (∀ d ∈ ds, TB (nd + 3) 200 d) ∧ vs.length = L
theorem BAcc.but {a p : Addr} {L nd : Nat} {H H' : Hp} (h : BAcc K a p L nd H) (b : But a H H') : BAcc K a p L nd H' := by
  obtain ⟨n, vs, ds, h1, h2, h3, h4⟩ := h
  exact ⟨n, vs, ds, b _ _ n h1, dpAll_same (del_but b) h2, h3, h4⟩
theorem BAcc.make {a p : Addr} {nd : Nat} {H : Hp} {vs : List V} {ds : List PyData} (np : H p = none) (ha : H a ≠ none) (h2 : DpAll K (del H a) vs ds) (h3 : ∀ d ∈ ds, TB (nd + 3) 200 d) : BAcc K a p vs.length nd (upd H p (.lst vs)) :=
  ⟨fun z => ha (by rw [← z]; exact np), vs, ds, upd_same, dpAll_same (del_but (But.of (same_upd np))) h2, h3, rfl⟩
theorem dp_node {H : Hp} {v : V} {z : Str} {i : Int} {ds : List PyData} (h : Dp K H v (.tuple [.str z, .int i, .tuple ds])) : ∃ q1 q2 us, v = .ref q1 ∧ SqT K H q1 [.str z, .int i, .ref q2] ∧ SqT K H q2 us ∧ DpAll K H us ds := by
  cases h with
  | tup hS hA =>
    cases hA with
    | cons a1 hA =>
      cases hA with
      | cons a2 hA =>
        cases hA with
        | cons a3 hA =>
          cases hA
          cases a1
          cases a2
          cases a3 with
          | tup hS2 hA2 => exact ⟨_, _, _, rfl, hS, hS2, hA2⟩
theorem BAcc.cat {a p p8 p9 : Addr} {L nd : Nat} {H : Hp} {us ws : List V} {es : List PyData} (ha : H a ≠ none) (h : BAcc K a p L nd H) (hp : H p = some (.lst us)) (h2 : DpAll K (del H a) ws es) (h3 : ∀ d ∈ es, TB (nd + 3) 200 d) (n8 : H p8 = none) (n9 : upd H p8 (.lst ws) p9 = none) :
    BAcc K a p9 (L + ws.length) nd (upd (upd H p8 (.lst ws)) p9 (.lst (us ++ ws))) := by
  obtain ⟨n, vs, ds, h1, h4, h5, h6⟩ := h
  rw [hp] at h1
  cases h1
  have s8 := same_upd (o := .lst ws) n8
  have s9 := same_upd (o := .lst (us ++ ws)) n9
  have d9 := del_but (a := a) (But.of (s8.trans s9))
  refine ⟨fun z => ?_, us ++ ws, ds ++ es, upd_same, dpAll_appI (dpAll_same d9 h4) (dpAll_same d9 h2), fun d hd => ?_, by rw [List.length_append, h6]⟩
  · rw [z] at n9
    cases e : H a with
    | none => exact ha e
    | some o => rw [s8 _ _ e] at n9; cases n9
  · rcases List.mem_append.mp hd with z | z
    · exact h5 d z
    · exact h3 d z
theorem strs_dp {H : Hp} : ∀ ys : List Str, DpAll K H (ys.map V.str) (ys.map PyData.str)
  | [] => .nil
  | y :: ys => .cons (.str y) (strs_dp ys)
theorem ok_bent (T : Be mg) (c_law_take : C8.Cal P w K mg base 1 "_law_take" spTake []) (c_law_one_of : C8.Cal P w K mg base 2 "_law_one_of" (spOneOf K) []) (c_law_gone : C8.Cal P w K mg base 63 "_law_gone" (spGone K 62) []) (c_law_odd : C8.Cal P w K mg base 2 "_law_odd" (spOdd K) []) (c_law_put : C8.Cal P w K mg base 63 "_law_put" (spPutD K 62) [])
    (D : Dd K mg "_law_bent" s__law_bent P__law_bent) : C8.Cal P w K mg base 64 "_law_bent" (spBent K) [] := by
  refine D.cal sc__law_bent (fun vs H Q E h => ?_) (fun f cdv A outer s H vs Q E hr h => ?_)
  · obtain ⟨a, gd, v, rs, ms, ru, roof, m, k, t, rfl, _⟩ := h
    rfl
  · obtain ⟨a, gd, v, rs, ms, ru, roof, m, k, t, rfl, gi, go, ⟨b, hb, hbx⟩, hm, hv, tr, hk, q⟩ := h
    obtain ⟨nd, hnd⟩ : ∃ nd : Nat, nd = 54 := ⟨_, rfl⟩
    refine ⟨_, (pss_cons (ps_asg (C8.pe_c c_law_one_of hr (by decide) (by rfl) (pa_cons (pv 0) (pa_cons (C8.pe_c c_law_gone hr (by decide) (by rfl) (pa_cons (pv 2) (pa_cons (pe_tup pa_nil) pa_nil))) pa_nil))) (pg_tup rfl (pgs_cons (pg_name (i := 3) sc__law_bent.nd rfl (Or.inl rfl)) (pgs_cons (pg_name (i := 4) sc__law_bent.nd rfl (Or.inl rfl)) pgs_nil))))
        (pss_cons (ps_asg (pv 4) (pg_tup rfl (pgs_cons (pg_name (i := 5) sc__law_bent.nd rfl (Or.inl rfl)) (pgs_cons (pg_name (i := 6) sc__law_bent.nd rfl (Or.inl rfl)) (pgs_cons (pg_name (i := 7) sc__law_bent.nd rfl (Or.inl rfl)) pgs_nil)))))
        (pss_cons (ps_par rfl sc__law_bent.nd (i := 8) (j := 9) rfl rfl (by decide) rfl rfl (pa_cons (pe_op op_cat (pe_callB (call_sortedD rfl) (by rfl) T.sorted (by decide +kernel) (pa_cons (pe_dget (hu_of hr) (pv 1) pe_str (fun _ _ => rfl)) pa_nil)) (pe_lst (pa_cons pe_str (pa_cons pe_str (pa_cons pe_str (pa_cons pe_int pa_nil)))))) (pa_cons (pe_tup (pa_cons (pv 5) (pa_cons pe_int (pa_cons (pe_tup pa_nil) pa_nil)))) pa_nil)) (by rfl))
        (pss_cons (ps_set (i := 10) sc__law_bent.nd rfl (Or.inl rfl) (pe_lst (evm_cons bent_stb (ev_up (c2 := 2) (n2 := nd + 3) (k2 := 200) (ev_tup (n := nd + 1) (ev_cons bent_stb (ev_of (a := a) (pre := BPre K nd a) (n := nd + 1) (c := 1) (k := 1) (C8.pe_c c_law_one_of hr (by decide) (by rfl) (pa_cons (pv 0) (pa_cons (pv 8) pa_nil))) bent_one) (ev_cons bent_stb (ev_var (a := a) (pre := BPre K nd a) (n := nd + 1) (k := 1) (pv 6) bent_own) (ev_cons bent_stb (ev_var (a := a) (pre := BPre K nd a) (n := nd + 1) (k := 141) (pv 7) bent_parts) (ev_nil (a := a) (n := nd + 1))))) (by decide)) (by decide) (by omega) (by decide)) (evm_cons bent_stb (ev_up (c2 := 2) (n2 := nd + 3) (k2 := 200) (ev_tup (n := nd + 1) (ev_cons bent_stb (ev_var (a := a) (pre := BPre K nd a) (n := nd + 1) (k := 1) (pv 5) bent_mk) (ev_cons bent_stb (ev_of (a := a) (pre := BPre K nd a) (n := nd + 1) (c := 0) (k := 1) (pe_ix ix_list (pe_lst (pa_cons (pe_un un_neg pe_int) (pa_cons (pe_op op_pow pe_int pe_int) (pa_cons (pe_op op_sub (pe_op op_pow pe_int pe_int) pe_int) (pa_cons pe_bl pa_nil))))) (pe_op op_mod (pv 6) pe_int) (fun _ _ => rfl)) bent_four) (ev_cons bent_stb (ev_var (a := a) (pre := BPre K nd a) (n := nd + 1) (k := 141) (pv 7) bent_parts) (ev_nil (a := a) (n := nd + 1))))) (by decide)) (by decide) (by omega) (by decide)) (evm_nil (a := a) (n := nd + 3) (k := 200))))))
        (pss_cons (ps_set (i := 10) sc__law_bent.nd rfl (Or.inl rfl) (pe_op op_cat (pv 10) (pe_lst (evm_cons bent_stb (ev_up (c2 := 2) (n2 := nd + 3) (k2 := 200) (ev_tup (n := nd + 1) (ev_cons bent_stb (ev_var (a := a) (pre := BPre K nd a) (n := nd + 1) (k := 1) (pv 5) bent_mk) (ev_cons bent_stb (ev_of (a := a) (pre := BPre K nd a) (n := nd + 1) (c := 1) (k := 50) (C8.pe_c c_law_odd hr (by decide) (by rfl) (pa_cons (pv 0) pa_nil)) bent_odd) (ev_cons bent_stb (ev_var (a := a) (pre := BPre K nd a) (n := nd + 1) (k := 141) (pv 7) bent_parts) (ev_nil (a := a) (n := nd + 1))))) (by decide)) (by decide) (by omega) (by decide)) (evm_cons bent_stb (ev_up (c2 := 2) (n2 := nd + 3) (k2 := 200) (ev_tup (n := nd + 1) (ev_cons bent_stb (ev_var (a := a) (pre := BPre K nd a) (n := nd + 1) (k := 1) (pv 5) bent_mk) (ev_cons bent_stb (ev_var (a := a) (pre := BPre K nd a) (n := nd + 1) (k := 1) (pv 6) bent_own) (ev_cons bent_stb (ev_of (a := a) (pre := BPre K nd a) (n := nd + 1) (c := 0) (k := 141) (pe_callTy call_list_of (by rfl) T.list (by decide +kernel) (pa_cons (pv 7) pa_nil)) bent_list) (ev_nil (a := a) (n := nd + 1))))) (by decide)) (by decide) (by omega) (by decide)) (evm_cons bent_stb (ev_up (c2 := 2) (n2 := nd + 3) (k2 := 200) (ev_tup (n := nd + 1) (ev_cons bent_stb (ev_var (a := a) (pre := BPre K nd a) (n := nd + 1) (k := 1) (pv 5) bent_mk) (ev_cons bent_stb (ev_var (a := a) (pre := BPre K nd a) (n := nd + 1) (k := 1) (pv 6) bent_own) (ev_cons bent_stb (ev_of (a := a) (pre := BPre K nd a) (n := nd + 1) (c := 0) (k := 145) (pe_op (r := rCatAny K) op_catAny (pv 7) (pe_tup (pa_cons (pv 9) pa_nil))) bent_cat) (ev_nil (a := a) (n := nd + 1))))) (by decide)) (by decide) (by omega) (by decide)) (evm_nil (a := a) (n := nd + 3) (k := 200))))))))
        (pss_cons (ps_set (i := 10) sc__law_bent.nd rfl (Or.inl rfl) (pe_op op_cat (pv 10) (pe_lst (evm_cons bent_stb (ev_up (c2 := 2) (n2 := nd + 3) (k2 := 200) (ev_tup (n := nd + 1) (ev_cons bent_stb (ev_var (a := a) (pre := BPre K nd a) (n := nd + 1) (k := 1) (pv 5) bent_mk) (ev_cons bent_stb (ev_var (a := a) (pre := BPre K nd a) (n := nd + 1) (k := 1) (pv 6) bent_own) (ev_cons bent_stb (ev_of (a := a) (pre := BPre K nd a) (n := nd + 1) (c := 0) (k := 141) (pe_slice (r := rSlAny K) sl_any (pv 7) (po_some pe_int) po_none) bent_sl) (ev_nil (a := a) (n := nd + 1))))) (by decide)) (by decide) (by omega) (by decide)) (evm_cons bent_stb (ev_up (c2 := 2) (n2 := nd + 3) (k2 := 200) (ev_tup (n := nd + 1) (ev_cons bent_stb (ev_var (a := a) (pre := BPre K nd a) (n := nd + 1) (k := 1) (pv 5) bent_mk) (ev_cons bent_stb (ev_var (a := a) (pre := BPre K nd a) (n := nd + 1) (k := 1) (pv 6) bent_own) (ev_cons bent_stb (ev_of (a := a) (pre := BPre K nd a) (n := nd + 1) (c := 0) (k := 141) (pe_revT (pv 7)) bent_rev) (ev_nil (a := a) (n := nd + 1))))) (by decide)) (by decide) (by omega) (by decide)) (evm_cons bent_stb (ev_up (c2 := 2) (n2 := nd + 3) (k2 := 200) (ev_lst (n := nd + 1) (ev_cons bent_stb (ev_var (a := a) (pre := BPre K nd a) (n := nd + 1) (k := 1) (pv 5) bent_mk) (ev_cons bent_stb (ev_var (a := a) (pre := BPre K nd a) (n := nd + 1) (k := 1) (pv 6) bent_own) (ev_cons bent_stb (ev_var (a := a) (pre := BPre K nd a) (n := nd + 1) (k := 141) (pv 7) bent_parts) (ev_nil (a := a) (n := nd + 1))))) (by decide)) (by decide) (by omega) (by decide)) (evm_cons bent_stb (ev_up (c2 := 2) (n2 := nd + 3) (k2 := 200) (ev_tup (n := nd + 1) (ev_cons bent_stb (ev_var (a := a) (pre := BPre K nd a) (n := nd + 1) (k := 1) (pv 5) bent_mk) (ev_cons bent_stb (ev_var (a := a) (pre := BPre K nd a) (n := nd + 1) (k := 1) (pv 6) bent_own) (ev_nil (a := a) (n := nd + 1)))) (by decide)) (by decide) (by omega) (by decide)) (evm_nil (a := a) (n := nd + 3) (k := 200)))))))))
        (pss_cons (ps_set (i := 10) sc__law_bent.nd rfl (Or.inl rfl) (pe_op op_cat (pv 10) (pe_lst (evm_cons bent_stb (ev_up (c2 := 2) (n2 := nd + 3) (k2 := 200) (ev_tup (n := nd + 1) (ev_cons bent_stb (ev_var (a := a) (pre := BPre K nd a) (n := nd + 1) (k := 1) (pv 5) bent_mk) (ev_cons bent_stb (ev_var (a := a) (pre := BPre K nd a) (n := nd + 1) (k := 1) (pv 6) bent_own) (ev_cons bent_stb (ev_var (a := a) (pre := BPre K nd a) (n := nd + 1) (k := 141) (pv 7) bent_parts) (ev_cons bent_stb (ev_val (n := nd + 1) (k := 1) pe_int (fun _ => .int _) ⟨by decide +kernel, Nat.zero_le _, Nat.le_refl _⟩ (fun _ _ _ q => q)) (ev_nil (a := a) (n := nd + 1)))))) (by decide)) (by decide) (by omega) (by decide)) (evm_cons bent_stb (ev_up (c2 := 2) (n2 := nd + 3) (k2 := 200) (ev_of (a := a) (pre := BPre K nd a) (n := nd + 2) (c := 1) (k := 50) (C8.pe_c c_law_odd hr (by decide) (by rfl) (pa_cons (pv 0) pa_nil)) bent_odd) (by decide) (by omega) (by decide)) (evm_cons bent_stb (ev_up (c2 := 2) (n2 := nd + 3) (k2 := 200) (ev_tup (n := nd + 1) (ev_cons bent_stb (ev_var (a := a) (pre := BPre K nd a) (n := nd + 1) (k := 1) (pv 5) bent_mk) (ev_cons bent_stb (ev_var (a := a) (pre := BPre K nd a) (n := nd + 1) (k := 1) (pv 6) bent_own) (ev_cons bent_stb (ev_of (a := a) (pre := BPre K nd a) (n := nd + 1) (c := 1) (k := 101) (pe_op (r := rRepS01 K) op_repAny (pe_tup (pa_cons (C8.pe_c c_law_odd hr (by decide) (by rfl) (pa_cons (pv 0) pa_nil)) pa_nil)) (pe_callB call_len_seq (by rfl) T.len PySem.boot_len (pa_cons (pv 7) pa_nil))) bent_rep) (ev_nil (a := a) (n := nd + 1))))) (by decide)) (by decide) (by omega) (by decide)) (evm_nil (a := a) (n := nd + 3) (k := 200))))))))
        (pss_one (ps_ret (C8.pe_c c_law_put hr (by decide) (by rfl) (pa_cons (pv 2) (pa_cons (pv 3) (pa_cons (pe_ix (r := rIxL K) ix_list (pv 10) (C8.pe_c c_law_take hr (by decide) (by rfl) (pa_cons (pv 0) (pa_cons pe_int pa_nil))) (fun _ _ => rfl)) pa_nil))))))))))))), ?_⟩
    have tr62 : Tr 62 k t := tr.mono (by decide)
    -- a node
    refine ⟨_, rfl, _, rfl, by show 0 ≤ sizeLine; decide, fun e0 n0 => ?_⟩
    have g0 := same_upd (o := .tup []) n0
    refine ⟨v, .ref e0, t, [], k, rfl, dp_same g0 hv, tr62, path_dp (p := []) (SqT.of upd_same), by decide, by omega, fun X1 ld es s1 nld hld hes => ?_⟩
    have s01 := g0.trans s1
    have les := dpAll_len hes
    rw [List.length_map] at les
    have lg := gone_len 62 tr62 []
    have lpos : 0 < (goneF 62 [] t).length := by
      show 0 < (([], t) :: _).length
      rw [List.length_cons]
      omega
    have nla : ld ≠ a := fun z => by
      rw [z] at nld
      rw [g0 _ _ hb] at nld
      cases nld
    refine ⟨a, ld, m, b, es, rfl, s01 _ _ hb, hbx, by omega, SqL.of hld, nla, by omega, by omega, fun i x b1 hx hbx1 => ?_⟩
    obtain ⟨y, hy, hxd⟩ := dpAll_at hes hx
    rw [List.getElem?_map] at hy
    obtain ⟨y', hy', rfl⟩ : ∃ z, (goneF 62 [] t)[i]? = some z ∧ y = pairD z := by
      cases e : (goneF 62 [] t)[i]? with
      | none => rw [e] at hy; cases hy
      | some z => rw [e] at hy; exact ⟨z, rfl, (Option.some.inj hy).symm⟩
    obtain ⟨sp, e1, hgo, hsl, _⟩ := gone_go 62 tr62 [] y' (List.mem_of_getElem? hy')
    obtain ⟨y1, u⟩ := y'
    have e1 : y1 = sp := e1
    subst e1
    have hgo : goD t (intsD y1) = some u := hgo
    obtain ⟨n', k', hn', hk', tru⟩ := go_deep y1 tr hgo
    obtain ⟨q0, p0, nv, rfl, hSq, hp0, hnv⟩ := dp_pair hxd
    -- off the box
    obtain ⟨X2, e2⟩ : ∃ X2, X2 = upd X1 a (.lst b1) := ⟨_, rfl⟩
    have bt1 : But a X1 X2 := e2 ▸ But.upd (But.refl a X1)
    have bt2 : But a H X2 := (But.of s01).trans bt1
    have hb1 := s01 _ _ hb
    have hb2 : X2 a = some (.lst b1) := by rw [e2, upd_same]
    have kp : KeepT X1 X2 := fun c o tt h => bt1 c o (fun z => by rw [z, hb1] at h; cases h; exact lst_no tt) h
    rw [← e2]
    have hp0' : Dp K (del X2 a) p0 (pathD y1) := dp_imm (kp.trans (del_keep hb2)) hp0 (ints_imm _)
    have hnv' : Dp K (del X2 a) nv u := dp_imm (kp.trans (del_keep hb2)) hnv tru.imm
    have hv' : Dp K (del X2 a) v t := dp_imm ((KeepT.of s01).trans (kp.trans (del_keep hb2))) hv tr.imm
    refine ⟨q0, _, rfl, kp.seqT hSq, rfl, _, _, rfl, _, _, rfl, rfl, ?_⟩
    cases tru with
    | @mk n' k' z i0 ds hz h0 h1 hl ha =>
      obtain ⟨q1, q2, us, rfl, hS1, hS2, hA2⟩ := dp_node hnv'
      refine ⟨_, rfl, q1, _, rfl, sqT_in hS1, rfl, _, _, rfl, _, _, rfl, _, _, rfl, rfl, ?_⟩
      -- names, a leaf
      obtain ⟨gkv, by_, byk, hgd, hgb, hbk, hkeys, hvals⟩ := (gi.go hb bt2).byt.ex
      have getb : DGet X2 gd (.str "by") (some (.ref by_)) := by
        have h := DGet.k (k := Sum.inr "by") hgd
        rw [hgb] at h
        exact h
      refine ⟨_, rfl, gd, .ref by_, rfl, getb, by_, byk, ms.map (fun m => SX.S m.nm), rfl, Rd.of hbk, by rw [hkeys, List.map_map]; rfl, by rw [List.length_map]; have := go.m8; omega, fun ys p2 hperm _ np2 => ?_⟩
      have s2 := same_upd (o := .lst (ys.map V.str)) np2
      have ly : ys.length = ms.length := by rw [hperm.length_eq, List.length_map]
      have m8 := go.m8
      refine ⟨by show 4 ≤ sizeLine; decide, fun p3 np3 => ?_⟩
      have s3 := same_upd (o := .lst [.str "zz", .str "own", .str "", .int 5]) np3
      refine ⟨p2, p3, ys.map V.str, [.str "zz", .str "own", .str "", .int 5], rfl, rfl, s3 _ _ upd_same, upd_same, Nat.le_trans (show _ ≤ 12 from by rw [List.length_map, ly]; show ms.length + 4 ≤ 12; omega) (by decide), fun p4 np4 => ?_⟩
      have s4 := same_upd (o := .lst (ys.map V.str ++ [.str "zz", .str "own", .str "", .int 5])) np4
      refine ⟨_, rfl, by show 0 ≤ sizeLine; decide, fun p5 np5 => ⟨by show 3 ≤ sizeLine; decide, fun p6 np6 => ?_⟩⟩
      have s5 := same_upd (o := .tup []) np5
      have s6 := same_upd (o := .tup [.str z, .int 0, .ref p5]) np6
      have s46 := s5.trans s6
      have s26 := (s2.trans s3).trans (s4.trans s46)
      have h4u := s46 _ _ (upd_same (H := upd (upd X2 p2 (.lst (ys.map V.str))) p3 (.lst [.str "zz", .str "own", .str "", .int 5])) (a := p4) (o := .lst (ys.map V.str ++ [.str "zz", .str "own", .str "", .int 5])))
      have h5u := s6 _ _ (upd_same (H := upd (upd (upd X2 p2 (.lst (ys.map V.str))) p3 (.lst [.str "zz", .str "own", .str "", .int 5])) p4 (.lst (ys.map V.str ++ [.str "zz", .str "own", .str "", .int 5]))) (a := p5) (o := .tup []))
      have h6u := upd_same (H := upd (upd (upd (upd X2 p2 (.lst (ys.map V.str))) p3 (.lst [.str "zz", .str "own", .str "", .int 5])) p4 (.lst (ys.map V.str ++ [.str "zz", .str "own", .str "", .int 5]))) p5 (.tup [])) (a := p6) (o := .tup [.str z, .int 0, .ref p5])
      have n4a : p4 ≠ a := fun e => by
        rw [e, (s2.trans s3) _ _ hb2] at np4
        cases np4
      obtain ⟨H6, e6⟩ : ∃ H6, H6 = upd (upd (upd (upd (upd X2 p2 (.lst (ys.map V.str))) p3 (.lst [.str "zz", .str "own", .str "", .int 5])) p4 (.lst (ys.map V.str ++ [.str "zz", .str "own", .str "", .int 5]))) p5 (.tup [])) p6 (.tup [.str z, .int 0, .ref p5]) := ⟨_, rfl⟩
      rw [← e6] at s26 h4u h5u h6u ⊢
      have hb6 := s26 _ _ hb2
      have bt6 : But a H H6 := bt2.trans (But.of s26)
      have dB6 : ∀ {c : Addr} {o : HO}, c ≠ a → H6 c = some o → del H6 a c = some o := fun n e => by
        rw [del_ne n]
        exact e
      have hds26 := del_but (a := a) (But.of s26)
      have tbk : TBs nd 140 ds := by
        have := TrAll.tbs ha
        exact this.mono (by omega) (by omega)
      have lus : us.length ≤ 2 := by rw [dpAll_len hA2]; exact hl
      have hnames : DpAll K (del H6 a) (ys.map V.str ++ [.str "zz", .str "own", .str "", .int 5]) (ys.map PyData.str ++ [.str "zz", .str "own", .str "", .int 5]) := by
        refine dpAll_appI ?_ (.cons (.str _) (.cons (.str _) (.cons (.str _) (.cons (.int _) .nil))))
        exact strs_dp ys
      have hnt : ∀ d ∈ ys.map PyData.str ++ [.str "zz", .str "own", .str "", .int 5], TB 0 1 d := fun d hd => by
        rcases List.mem_append.mp hd with e | e
        · obtain ⟨y, hy, rfl⟩ := List.mem_map.mp e
          obtain ⟨mr, hmr, rfl⟩ := List.mem_map.mp (hperm.mem_iff.mp hy)
          exact tb_str ⟨_, rfl, (go.ok mr hmr).nm⟩
        · simp only [List.mem_cons, List.not_mem_nil, or_false] at e
          rcases e with rfl | rfl | rfl | rfl
          all_goals exact ⟨by decide +kernel, Nat.zero_le _, Nat.le_refl _⟩
      have pre : ∀ (x10 : Option V) (Y : Hp), But a H6 Y → BPre K nd a [some (.ref a), some (.ref gd), some v, some p0, some (.ref q1), some (.str z), some (.int i0), some (.ref q2), some (.ref p4), some (.ref p6), x10] Y := fun x10 Y bt => by
        have d := del_but bt
        refine ⟨_, _, _, _, x10, z, i0, q2, p4, .ref p6, us, _, ds, _, .tuple [.str z, .int 0, .tuple []], rfl, hz, h0, h1, Same.seqT (hds26.trans d) hS2, dpAll_same (hds26.trans d) hA2, tbk, lus, d _ _ (dB6 n4a h4u), dpAll_same d hnames, hnt, ?_, ?_, ?_, ?_⟩
        · rw [List.length_append]
          show 0 < _ + 4
          omega
        · rw [List.length_append, List.length_map, ly]
          show _ + 4 ≤ 20
          omega
        · exact dp_imm ((del_keep hb6).trans (KeepT.of d)) (.tup (SqT.of h6u) (.cons (.str _) (.cons (.int _) (.cons (.tup (SqT.of h5u) .nil) .nil)))) rfl
        · exact (TBs.tup (TBs.cons (tb_str (n := 1) hz) (TBs.cons (tb_int (by decide) (by decide)) (TBs.cons (TBs.tup TBs.nil) TBs.nil)))).mono (by decide) (by decide)
      -- what it may become
      refine ⟨_, _, rfl, m + 1, ⟨b1, hb6, hbx1⟩, by omega, pre _ _ (But.refl a H6), fun H7 vs7 ds7 bt7 hB7 hds7 hts7 l7 => ⟨by rw [l7]; decide, fun p7 np7 => ?_⟩⟩
      have acc7 := BAcc.make np7 hB7.ne hds7 hts7
      have t7 := bt7.trans (But.of (same_upd (o := .lst vs7) np7))
      have hB7' := hB7.same (same_upd (o := .lst vs7) np7)
      have hp7 : (upd H7 p7 (.lst vs7)) p7 = some (.lst vs7) := upd_same
      rw [l7] at acc7
      generalize upd H7 p7 (.lst vs7) = Y7 at acc7 t7 hB7' hp7 ⊢
      refine ⟨_, rfl, _, hB7', by omega, pre _ _ t7, fun H8 vs8 ds8 bt8 hB8 hds8 hts8 l8 => ⟨by rw [l8]; decide, fun p8 np8 => ?_⟩⟩
      have hp78 := bt8 _ _ acc7.1 hp7
      refine ⟨p7, p8, vs7, vs8, rfl, rfl, (same_upd (o := .lst vs8) np8) _ _ hp78, upd_same, by rw [l7, l8]; decide, fun p9 np9 => ?_⟩
      have acc9 := BAcc.cat hB8.ne (acc7.but bt8) hp78 hds8 hts8 np8 np9
      have t9 := ((t7.trans bt8).trans (But.of (same_upd (o := .lst vs8) np8))).trans (But.of (same_upd (o := .lst (vs7 ++ vs8)) np9))
      have hB9 := (hB8.same (same_upd (o := .lst vs8) np8)).same (same_upd (o := .lst (vs7 ++ vs8)) np9)
      have hp9 : (upd (upd H8 p8 (.lst vs8)) p9 (.lst (vs7 ++ vs8))) p9 = some (.lst (vs7 ++ vs8)) := upd_same
      have l9 : (vs7 ++ vs8).length = 5 := by rw [List.length_append, l7, l8]
      rw [l8] at acc9
      generalize upd (upd H8 p8 (.lst vs8)) p9 (.lst (vs7 ++ vs8)) = Y9 at acc9 t9 hB9 hp9 ⊢
      generalize vs7 ++ vs8 = w9 at hp9 l9
      refine ⟨_, rfl, _, hB9, by omega, pre _ _ t9, fun H10 vs10 ds10 bt10 hB10 hds10 hts10 l10 => ⟨by rw [l10]; decide, fun p10 np10 => ?_⟩⟩
      have hp910 := bt10 _ _ acc9.1 hp9
      refine ⟨p9, p10, w9, vs10, rfl, rfl, (same_upd (o := .lst vs10) np10) _ _ hp910, upd_same, by rw [l9, l10]; decide, fun p11 np11 => ?_⟩
      have acc11 := BAcc.cat hB10.ne (acc9.but bt10) hp910 hds10 hts10 np10 np11
      have t11 := ((t9.trans bt10).trans (But.of (same_upd (o := .lst vs10) np10))).trans (But.of (same_upd (o := .lst (w9 ++ vs10)) np11))
      have hB11 := (hB10.same (same_upd (o := .lst vs10) np10)).same (same_upd (o := .lst (w9 ++ vs10)) np11)
      have hp11 : (upd (upd H10 p10 (.lst vs10)) p11 (.lst (w9 ++ vs10))) p11 = some (.lst (w9 ++ vs10)) := upd_same
      have l11 : (w9 ++ vs10).length = 9 := by rw [List.length_append, l9, l10]
      rw [l10] at acc11
      generalize upd (upd H10 p10 (.lst vs10)) p11 (.lst (w9 ++ vs10)) = Y11 at acc11 t11 hB11 hp11 ⊢
      generalize w9 ++ vs10 = w11 at hp11 l11
      refine ⟨_, rfl, _, hB11, by omega, pre _ _ t11, fun H12 vs12 ds12 bt12 hB12 hds12 hts12 l12 => ⟨by rw [l12]; decide, fun p12 np12 => ?_⟩⟩
      have hp1112 := bt12 _ _ acc11.1 hp11
      refine ⟨p11, p12, w11, vs12, rfl, rfl, (same_upd (o := .lst vs12) np12) _ _ hp1112, upd_same, by rw [l11, l12]; decide, fun p13 np13 => ?_⟩
      have acc13 := BAcc.cat hB12.ne (acc11.but bt12) hp1112 hds12 hts12 np12 np13
      have t13 := ((t11.trans bt12).trans (But.of (same_upd (o := .lst vs12) np12))).trans (But.of (same_upd (o := .lst (w11 ++ vs12)) np13))
      have hB13 := (hB12.same (same_upd (o := .lst vs12) np12)).same (same_upd (o := .lst (w11 ++ vs12)) np13)
      rw [l12] at acc13
      generalize upd (upd H12 p12 (.lst vs12)) p13 (.lst (w11 ++ vs12)) = Y13 at acc13 t13 hB13 ⊢
      -- one of them, put there
      obtain ⟨b13, hb13, hbx13⟩ := hB13
      refine ⟨_, rfl, _, rfl, _, rfl, _, rfl, a, 12, _, b13, rfl, hb13, hbx13, by omega, by decide, by decide, fun r b14 r0 r1 hbx14 => ?_⟩
      obtain ⟨n13, v13, d13, h13, g13, f13, l13⟩ := acc13
      obtain ⟨wv, hat, hmem⟩ := atI_some (xs := v13) r0 (by rw [l13]; exact r1)
      have bt14 : But a Y13 (upd Y13 a (.lst b14)) := But.upd (But.refl a Y13)
      obtain ⟨wd, hwm, hwd⟩ := dpAll_mem (dpAll_same (del_but bt14) g13) hmem
      refine ⟨p13, _, r, wv, rfl, rfl, SqL.of (bt14 _ _ n13 h13), hat, ?_⟩
      have tl : But a X2 (upd Y13 a (.lst b14)) := ((But.of s26).trans t13).trans bt14
      refine ⟨a, b14, v, p0, wv, t, _, wd, y1, 28, k, rfl, upd_same, dp_same (del_but tl) hv', tr, dp_same (del_but tl) hp0', by omega, hgo, hwd, fun H' uv s' huv => ?_⟩
      refine q H' uv _ ((bt2.trans tl).trans (But.of s')) ⟨b14, s' _ _ upd_same, hbx14.mono (by omega)⟩ huv ?_
      refine (put_tbw (M := 113) y1 tr hgo (f13 wd hwm) (by decide) (by omega)).mono (Nat.le_refl _) ?_
      have := tr.tb.wt
      omega
end
/-! ### great trees -/
abbrev s__law_great_right : Stmt := top 74
abbrev N__law_great_right : List Str := ["_law_makings", "_law_grammar", "_law_own", "_law_due", "_law_deep", "_law_wide", "_law_turn"]
abbrev P__law_great_right : List Str := []
theorem sc__law_great_right : FnScope N__law_great_right P__law_great_right (defScope s__law_great_right) := ⟨rfl, rfl, rfl, by decide +kernel, rfl, by decide +kernel, by decide +kernel⟩
def wLf : List Nat := [108, 101, 97, 102]
def wOn : List Nat := [111, 110, 101]
def wTw : List Nat := [116, 119, 111]
def wS : List Nat := [115]
def wT : List Nat := [116]
theorem s_leaf : (("leaf" : String) : Str) = SX.S wLf := by decide +kernel
theorem s_one : (("one" : String) : Str) = SX.S wOn := by decide +kernel
theorem s_two : (("two" : String) : Str) = SX.S wTw := by decide +kernel
theorem s_s : (("s" : String) : Str) = SX.S wS := by decide +kernel
theorem s_t : (("t" : String) : Str) = SX.S wT := by decide +kernel
def grMs : List MRow := [⟨wLf, wS, []⟩, ⟨wOn, wS, [wS]⟩, ⟨wTw, wS, [wS, wS]⟩]
def grRs : List SRow := [⟨wS, [], []⟩]
theorem nm_lf : NmOk wLf := ⟨⟨by decide, by decide, by decide⟩, by decide⟩
theorem nm_on : NmOk wOn := ⟨⟨by decide, by decide, by decide⟩, by decide⟩
theorem nm_tw : NmOk wTw := ⟨⟨by decide, by decide, by decide⟩, by decide⟩
theorem nm_s : NmOk wS := ⟨⟨by decide, by decide, by decide⟩, by decide⟩
theorem gr_fit : GFit grRs grMs [] 0 := by
  refine ⟨⟨fun r hr => ?_, by decide, by decide⟩, by decide, fun m hm => ?_, by decide, (fun _ h => nomatch h), .nil, by decide, (fun _ h => nomatch h), fun m _ => by show 0 ≤ 2; decide, by decide⟩
  · have e : r = ⟨wS, [], []⟩ := List.mem_singleton.mp hr
    subst e
    exact ⟨nm_s, (fun _ h => nomatch h), .nil, by decide, by decide⟩
  · have all : ∀ k, k = wS → ∃ r ∈ grRs, r.nm = k := fun k e => ⟨_, List.mem_singleton.mpr rfl, e.symm⟩
    simp only [grMs, List.mem_cons, List.not_mem_nil, or_false] at hm
    rcases hm with rfl | rfl | rfl
    · exact ⟨nm_lf, fun k hk => all k (by simpa [MRow.places] using hk), by decide⟩
    · exact ⟨nm_on, fun k hk => all k (by simpa [MRow.places] using hk), by decide⟩
    · exact ⟨nm_tw, fun k hk => all k (by simpa [MRow.places] using hk), by decide⟩
def nodeD (w : List Nat) (own : PyData) (ps : List PyData) : PyData := .tuple [strD w, own, .tuple ps]
def deepD (own : PyData) : Nat → PyData
  | 0 => nodeD wLf own []
  | n + 1 => nodeD wOn (.int (n : Nat)) [deepD own n]
def wideD (own : PyData) : Nat → PyData
  | 0 => nodeD wLf own []
  | n + 1 => nodeD wTw (.int 7) [nodeD wLf (.int (n : Nat)) [], wideD own n]
def dueS (due : Option Str) : Prop := dueB due (SX.S wS) = true
theorem gr_find {w : List Nat} {m : MRow} (hm : m ∈ grMs) (e : m.nm = w) : mOf grMs (strD w) = some m := by
  cases h : mOf grMs (strD w) with
  | none => exact absurd (by rw [e]) (mOf_none h m hm)
  | some m' =>
    obtain ⟨h1, h2⟩ := mOf_some h
    have e2 : w = m'.nm := SX.S_inj (PyData.str.inj h2)
    have nd : (grMs.map MRow.nm).Nodup := by decide
    rw [nodup_eq nd hm h1 (by rw [e, e2])]
theorem node_gr {n : Nat} {due : Option Str} {w : List Nat} {m : MRow} {own : PyData} {ps : List PyData} (hm : m ∈ grMs) (e : m.nm = w) : isTr grMs (n + 1) due (nodeD w own ps) = (worthB own && (tupN m.pt.length (.tuple ps) && (dueB due (SX.S m.so) && allZ (isTr grMs n) ps m.pt))) := by
  show (match mOf grMs (strD w) with | some m => worthB own && (tupN m.pt.length (.tuple ps) && (dueB due (SX.S m.so) && allZ (isTr grMs n) (tupD (.tuple ps)) m.pt)) | none => false) = _
  rw [gr_find hm e]
  rfl
theorem mem_lf : (⟨wLf, wS, []⟩ : MRow) ∈ grMs := List.mem_cons_self ..
theorem mem_on : (⟨wOn, wS, [wS]⟩ : MRow) ∈ grMs := List.mem_cons_of_mem _ (List.mem_cons_self ..)
theorem mem_tw : (⟨wTw, wS, [wS, wS]⟩ : MRow) ∈ grMs := List.mem_cons_of_mem _ (List.mem_cons_of_mem _ (List.mem_cons_self ..))
theorem gr_leaf (n : Nat) {due : Option Str} (hd : dueS due) (own : PyData) : isTr grMs (n + 1) due (nodeD wLf own []) = worthB own := by
  rw [node_gr mem_lf rfl]
  show (worthB own && (true && (dueB due (SX.S wS) && true))) = _
  rw [hd]
  simp
theorem wI {n : Nat} (h : n < 1000000) : worthB (.int (n : Nat)) = true := by
  show (decide ((0 : Int) ≤ (n : Int)) && decide ((n : Int) < 1000000)) = true
  rw [decide_eq_true (by omega), decide_eq_true (by omega)]
  rfl
theorem due_s : dueS (some (SX.S wS)) := (decide_eq_true rfl : decide (SX.S wS = SX.S wS) = true)
theorem gr_deep {own : PyData} : ∀ (k n : Nat) {due : Option Str}, k < n → k ≤ 1000 → dueS due → isTr grMs n due (deepD own k) = worthB own
  | 0, n + 1, due, _, _, hd => gr_leaf n hd own
  | k + 1, n + 1, due, h, hk, hd => by
    show isTr grMs (n + 1) due (nodeD wOn (.int (k : Nat)) [deepD own k]) = _
    rw [node_gr mem_on rfl, wI (by omega)]
    show (true && (true && (dueB due (SX.S wS) && (isTr grMs n (some (SX.S wS)) (deepD own k) && true)))) = _
    rw [gr_deep k n (by omega) (by omega) due_s, hd]
    simp
theorem gr_wide {own : PyData} : ∀ (k n : Nat) {due : Option Str}, k < n → k ≤ 1000 → dueS due → isTr grMs n due (wideD own k) = worthB own
  | 0, n + 1, due, _, _, hd => gr_leaf n hd own
  | k + 1, 1, due, h, hk, hd => by omega
  | k + 1, n + 2, due, h, hk, hd => by
    show isTr grMs (n + 1 + 1) due (nodeD wTw (.int 7) [nodeD wLf (.int (k : Nat)) [], wideD own k]) = _
    rw [node_gr mem_tw rfl, show worthB (.int 7) = true from rfl]
    show (true && (true && (dueB due (SX.S wS) && (isTr grMs (n + 1) (some (SX.S wS)) (nodeD wLf (.int (k : Nat)) []) && (isTr grMs (n + 1) (some (SX.S wS)) (wideD own k) && true))))) = _
    rw [gr_leaf n due_s, gr_wide k (n + 1) (by omega) (by omega) due_s, wI (by omega), hd]
    simp
theorem sm_node {n : Nat} {w : List Nat} {own : PyData} {ps : List PyData} (ho : Sm (n + 1) own) (hl : ps.length ≤ 500) (h : ∀ d ∈ ps, Sm n d) : Sm (n + 2) (nodeD w own ps) := by
  refine .tup (n + 1) (by show 3 ≤ 500; decide) fun x hx => ?_
  simp only [List.mem_cons, List.not_mem_nil, or_false] at hx
  rcases hx with rfl | rfl | rfl
  · exact .str _ _
  · exact ho
  · exact .tup n hl h
theorem sm_deep {own : PyData} (ho : ∀ n, Sm n own) : ∀ k, Sm (2 * (k + 1)) (deepD own k)
  | 0 => sm_node (ho _) (by decide) (fun _ h => nomatch h)
  | k + 1 => sm_node (.int _ _) (by show 1 ≤ 500; decide) fun d hd => by
    rw [List.mem_singleton.mp hd]
    exact sm_deep ho k
theorem sm_wide {own : PyData} (ho : ∀ n, Sm n own) : ∀ k, Sm (2 * (k + 1)) (wideD own k)
  | 0 => sm_node (ho _) (by decide) (fun _ h => nomatch h)
  | k + 1 => sm_node (.int _ _) (by show 2 ≤ 500; decide) fun d hd => by
    simp only [List.mem_cons, List.not_mem_nil, or_false] at hd
    rcases hd with rfl | rfl
    · exact sm_node (n := 2 * k) (ps := []) (.int _ _) (by decide) (fun _ h => nomatch h)
    · exact sm_wide ho k
theorem tup_new {K : PySem.W.Frag} {H : Hp} {p : Addr} {vs : List V} {ds : List PyData} (n : H p = none) (h : DpAll K H vs ds) : Dp K (upd H p (.tup vs)) (.ref p) (.tuple ds) := .tup (SqT.of upd_same) (dpAll_same (same_upd n) h)
/-- the class, called with its cap left out -/
theorem gmk0_of {P : Program} {w : World} {K : PySem.W.Frag} {mg : Str → Option Value} {base : Heap} {C f : Addr} {fd : FuncData} (F : FunD K "__init__" "Grammar.__init__" (defArgs s_GI) (defBody s_GI) (defScope s_GI) [] [("cap", .int 0)] f fd) (ok : FnOk P w K mg base CX0 6 f fd P_GI (spGI K P w C)) (M : Mk K C f) (hm : mg "Grammar" = some (.ref C)) : C8.Mak P w K mg base 6 "Grammar" C (spGI K P w C) [.int 0] := by
  obtain ⟨ds, hv, hb⟩ := FunD.binds0 (ps := P_GI) F 4 (by simp) rfl (fun D doc pm an cdv ct us ks hl hk => match us, ks, hl, hk with
    | [_, _, _, _], [_], _, _ => ⟨_, _, _, _, _, _, rfl, rfl, rfl⟩)
  exact ⟨f, fd, P_GI, ds, M, ok, hm, hb, hv⟩
theorem is_tree0_of {P : Program} {w : World} {K : PySem.W.Frag} {mg : Str → Option Value} {base : Heap} {k : Nat} {sp : Sp} {f : Addr} {fd : FuncData} (F : FunD K "is_tree" "is_tree" (defArgs s_is_tree) (defBody s_is_tree) (defScope s_is_tree) [] [("sort", .non)] f fd) (g : mg "is_tree" = some (.ref f)) (ok : FnOk P w K mg base CX0 k f fd P_is_tree sp) :
    C8.Cal P w K mg base k "is_tree" sp [.non] ∧ KCal P w K mg base k "is_tree" sp 2 ["sort"] (fun vs zs => vs ++ zs) := by
  obtain ⟨ds, hv, hb⟩ := FunD.binds0 (ps := P_is_tree) F 2 (by simp) rfl (fun D doc pm an cdv ct us ks hl hk => match us, ks, hl, hk with
    | [_, _], [_], _, _ => ⟨_, _, _, _, _, _, rfl, rfl, rfl⟩)
  have hk1 := kbindsN (ps := P_is_tree) F 2 ["sort"] (fun us ws => us ++ ws) (fun h2 h3 => Vals.append h2 h3) (fun kV doc pm an cdv ct us ws hl hw => match us, ws, hl, hw with
    | [_, _], [_], _, _ => rfl)
  exact ⟨⟨f, fd, _, ds, ok, g, F.kp, hb, hv⟩, ⟨f, fd, _, _, ok, g, F.kp, hk1⟩⟩
def spGreat : Sp := fun vs H Q _ => vs = [] ∧ ∀ H', Same H H' → Q (.bl true) H'
structure Gr (mg : Str → Option Value) : Prop where
  range : mg "range" = none
section
variable {P : Program} {w : World} {K : PySem.W.Frag} {mg : Str → Option Value} {base : Heap} {C : Addr}
theorem ok_great (T : Gr mg) (GM0 : C8.Mak P w K mg base 6 "Grammar" C (spGI K P w C) [.int 0]) (cis_tree0 : C8.Cal P w K mg base 178 "is_tree" (spIsTree K P w C 114 57) [.non]) (cis_tree : KCal P w K mg base 178 "is_tree" (spIsTree K P w C 114 57) 2 ["sort"] (fun vs zs => vs ++ zs))
    (c_law_same : C8.Cal P w K mg base 125 "_law_same" (spSame K 124) []) (D : Dd K mg "_law_great_right" s__law_great_right P__law_great_right) : C8.Cal P w K mg base 179 "_law_great_right" spGreat [] := by
  refine D.cal sc__law_great_right (fun vs H Q E h => ?_) (fun f cdv A outer s H vs Q E hr h => ?_)
  · obtain ⟨rfl, _⟩ := h
    rfl
  · obtain ⟨rfl, q⟩ := h
    refine ⟨_, (pss_cons (ps_set (i := 0) sc__law_great_right.nd rfl (Or.inl rfl) (pe_lst (pa_cons (pe_tup (pa_cons pe_str (pa_cons pe_str (pa_cons (pe_tup pa_nil) pa_nil)))) (pa_cons (pe_tup (pa_cons pe_str (pa_cons pe_str (pa_cons (pe_tup (pa_cons pe_str pa_nil)) pa_nil)))) (pa_cons (pe_tup (pa_cons pe_str (pa_cons pe_str (pa_cons (pe_tup (pa_cons pe_str (pa_cons pe_str pa_nil))) pa_nil)))) pa_nil)))))
        (pss_cons (ps_set (i := 1) sc__law_great_right.nd rfl (Or.inl rfl) (C8.pe_mk GM0 hr (by decide) (by rfl) (pa_cons (pe_lst (pa_cons (pe_tup (pa_cons pe_str (pa_cons (pe_tup pa_nil) (pa_cons (pe_tup pa_nil) pa_nil)))) pa_nil)) (pa_cons (pv 0) (pa_cons (pe_lst pa_nil) pa_nil)))))
        (pss_cons (ps_for PassesOwn.never rfl (pi_tup (pe_tup (pa_cons (pe_tup (pa_cons pe_int (pa_cons pe_bl pa_nil))) (pa_cons (pe_tup (pa_cons pe_int (pa_cons pe_bl pa_nil))) (pa_cons (pe_tup (pa_cons (pe_op op_pow pe_int pe_int) (pa_cons pe_bl pa_nil))) (pa_cons (pe_tup (pa_cons pe_bl (pa_cons pe_bl pa_nil))) pa_nil)))))) (pg_tup rfl (pgs_cons (pg_name (i := 2) sc__law_great_right.nd rfl (Or.inl rfl)) (pgs_cons (pg_name (i := 3) sc__law_great_right.nd rfl (Or.inl rfl)) pgs_nil)))
          (pss_cons (ps_par rfl sc__law_great_right.nd (i := 4) (j := 5) rfl rfl (by decide) rfl rfl (pa_cons (pe_tup (pa_cons pe_str (pa_cons (pv 2) (pa_cons (pe_tup pa_nil) pa_nil)))) (pa_cons (pe_tup (pa_cons pe_str (pa_cons (pv 2) (pa_cons (pe_tup pa_nil) pa_nil)))) pa_nil)) (by rfl))
        (pss_cons (ps_for PassesOwn.never rfl (pi_range1 rfl T.range (pa_cons pe_int pa_nil)) (pg_name (i := 6) sc__law_great_right.nd rfl (Or.inl rfl))
          (pss_one (ps_par rfl sc__law_great_right.nd (i := 4) (j := 5) rfl rfl (by decide) rfl rfl (pa_cons (pe_tup (pa_cons pe_str (pa_cons (pv 6) (pa_cons (pe_tup (pa_cons (pv 4) pa_nil)) pa_nil)))) (pa_cons (pe_tup (pa_cons pe_str (pa_cons pe_int (pa_cons (pe_tup (pa_cons (pe_tup (pa_cons pe_str (pa_cons (pv 6) (pa_cons (pe_tup pa_nil) pa_nil)))) (pa_cons (pv 5) pa_nil))) pa_nil)))) pa_nil)) (by rfl))))
        (pss_one (ps_if (pt_not (pt_val (C8.pe_c c_law_same hr (by decide) (by rfl) (pa_cons (pe_lst (pa_cons (C8.pe_c cis_tree0 hr (by decide) (by rfl) (pa_cons (pv 1) (pa_cons (pv 4) pa_nil))) (pa_cons (pe_kw cis_tree hr (by decide) (by rfl) (pa_cons (pv 1) (pa_cons (pv 5) pa_nil)) (pk_cons pe_str pk_nil)) pa_nil))) (pa_cons (pe_lst (pa_cons (pv 3) (pa_cons (pv 3) pa_nil))) pa_nil)))))
          (pss_one (ps_ret pe_bl))
          pss_nil)))))
        (pss_one (ps_ret (pe_cmpR op_isBl (pe_kw cis_tree hr (by decide) (by rfl) (pa_cons (pv 1) (pa_cons (pe_tup (pa_cons pe_str (pa_cons pe_int (pa_cons (pe_tup pa_nil) pa_nil)))) pa_nil)) (pk_cons pe_str pk_nil)) pe_bl (nomark _))))))), ?_⟩
    -- the makings
    refine ⟨by show 0 ≤ sizeLine; decide, fun e0 n0 => ⟨by show 3 ≤ sizeLine; decide, fun t0 m0 => ?_⟩⟩
    have d0 := tup_new (K := K) n0 .nil
    have s0 := same_upd (o := .tup []) n0
    generalize upd H e0 (.tup []) = H0 at d0 s0 m0 ⊢
    have d1 := tup_new (K := K) m0 (.cons (.str "leaf") (.cons (.str "s") (.cons d0 .nil)))
    have s1 := s0.trans (same_upd (o := .tup [.str "leaf", .str "s", .ref e0]) m0)
    generalize upd H0 t0 (.tup [.str "leaf", .str "s", .ref e0]) = H1 at d1 s1 ⊢
    refine ⟨by show 1 ≤ sizeLine; decide, fun e1 n1 => ⟨by show 3 ≤ sizeLine; decide, fun t1 m1 => ?_⟩⟩
    have d2 := tup_new (K := K) n1 (.cons (.str "s") .nil)
    have s2 := same_upd (o := .tup [.str "s"]) n1
    generalize upd H1 e1 (.tup [.str "s"]) = H2 at d2 s2 m1 ⊢
    have d3 := tup_new (K := K) m1 (.cons (.str "one") (.cons (.str "s") (.cons d2 .nil)))
    have s3 := s2.trans (same_upd (o := .tup [.str "one", .str "s", .ref e1]) m1)
    generalize upd H2 t1 (.tup [.str "one", .str "s", .ref e1]) = H3 at d3 s3 ⊢
    refine ⟨by show 2 ≤ sizeLine; decide, fun e2 n2 => ⟨by show 3 ≤ sizeLine; decide, fun t2 m2 => ?_⟩⟩
    have d4 := tup_new (K := K) n2 (.cons (.str "s") (.cons (.str "s") .nil))
    have s4 := same_upd (o := .tup [.str "s", .str "s"]) n2
    generalize upd H3 e2 (.tup [.str "s", .str "s"]) = H4 at d4 s4 m2 ⊢
    have d5 := tup_new (K := K) m2 (.cons (.str "two") (.cons (.str "s") (.cons d4 .nil)))
    have s5 := s4.trans (same_upd (o := .tup [.str "two", .str "s", .ref e2]) m2)
    generalize upd H4 t2 (.tup [.str "two", .str "s", .ref e2]) = H5 at d5 s5 ⊢
    refine ⟨by show 3 ≤ sizeLine; decide, fun L nL => ?_⟩
    have hL := upd_same (H := H5) (a := L) (o := .lst [.ref t0, .ref t1, .ref t2])
    have s6 := same_upd (o := .lst [.ref t0, .ref t1, .ref t2]) nL
    generalize upd H5 L (.lst [.ref t0, .ref t1, .ref t2]) = H6 at hL s6 ⊢
    -- the grammar
    refine ⟨by show 0 ≤ sizeLine; decide, fun f0 k0 => ⟨by show 0 ≤ sizeLine; decide, fun f1 k1 => ⟨by show 3 ≤ sizeLine; decide, fun t3 k2 => ⟨by show 1 ≤ sizeLine; decide, fun LS k3 => ?_⟩⟩⟩⟩
    have g0 := tup_new (K := K) k0 .nil
    have r0 := same_upd (o := .tup []) k0
    generalize upd H6 f0 (.tup []) = X0 at g0 r0 k1 k2 k3 ⊢
    have g1 := tup_new (K := K) k1 .nil
    have r1 := same_upd (o := .tup []) k1
    generalize upd X0 f1 (.tup []) = X1 at g1 r1 k2 k3 ⊢
    have g2 := tup_new (K := K) k2 (.cons (.str "s") (.cons (dp_same r1 g0) (.cons g1 .nil)))
    have r2 := (r0.trans r1).trans (same_upd (o := .tup [.str "s", .ref f0, .ref f1]) k2)
    generalize upd X1 t3 (.tup [.str "s", .ref f0, .ref f1]) = X2 at g2 r2 k3 ⊢
    have hLS := upd_same (H := X2) (a := LS) (o := .lst [.ref t3])
    have r3 := same_upd (o := .lst [.ref t3]) k3
    generalize upd X2 LS (.lst [.ref t3]) = X3 at hLS r3 ⊢
    refine ⟨_, rfl, by show 0 ≤ sizeLine; decide, fun LR k4 x dx nx ndx ndd => ?_⟩
    have hLR := upd_same (H := X3) (a := LR) (o := .lst [])
    have r4 := same_upd (o := .lst []) k4
    generalize upd X3 LR (.lst []) = X4 at hLR r4 nx ndx ⊢
    have nx2 : (upd X4 dx (.own x)) x = none := by
      rw [upd_ne (Ne.symm ndd)]
      exact nx
    have r5 := (same_upd (o := .own x) ndx).trans (same_upd (o := .ins C dx []) nx2)
    have hx := upd_same (H := upd X4 dx (.own x)) (a := x) (o := .ins C dx [])
    generalize upd (upd X4 dx (.own x)) x (.ins C dx []) = X5 at r5 hx ⊢
    have r35 := (r3.trans r4).trans r5
    have r25 := r2.trans r35
    have s56 := s6.trans r25
    have s15 : Same H1 X5 := (s3.trans s5).trans s56
    have nxH : H x = none := by
      cases e : H x with
      | none => rfl
      | some o => rw [(((((s1.trans s3).trans s5).trans s6).trans r2).trans r3).trans r4 _ _ e] at nx; cases nx
    have sU : Same H X5 := s1.trans s15
    rw [s_leaf, s_s] at d1
    rw [s_one, s_s] at d3
    rw [s_two, s_s] at d5
    rw [s_s] at g2
    refine ⟨x, dx, LS, L, LR, 0, _, _, _, grRs, grMs, [], rfl, hx, (r4.trans r5) _ _ hLS, r25 _ _ hL, r5 _ _ hLR, .cons (dp_same r35 g2) .nil, .cons (dp_same s15 d1) (.cons (dp_same (s5.trans s56) d3) (.cons (dp_same s56 d5) .nil)), .nil, gr_fit, fun H7 b7 gr => ⟨rfl, ?_⟩⟩
    have s7 : Same H H7 := fun b o e => b7 b o (fun z => by rw [z, nxH] at e; cases e) (sU b o e)
    have hnd : (grMs.map MRow.nm).Nodup := by decide
    have cp : CPow 10 6 := ⟨by decide, by decide, by decide⟩
    -- four numbers
    refine ⟨by show 2 ≤ sizeLine; decide, fun p0 j0 => ⟨by show 2 ≤ sizeLine; decide, fun p1 j1 => ⟨10, 6, rfl, rfl, cp, by show 2 ≤ sizeLine; decide, fun p2 j2 => ⟨by show 2 ≤ sizeLine; decide, fun p3 j3 => ⟨by show 4 ≤ sizeLine; decide, fun PT j4 => ?_⟩⟩⟩⟩⟩
    have u0 := SqT.of (K := K) (upd_same (H := H7) (a := p0) (o := .tup [.int 0, .bl true]))
    have o0 := same_upd (o := .tup [.int 0, .bl true]) j0
    generalize upd H7 p0 (.tup [.int 0, .bl true]) = Y0 at u0 o0 j1 j2 j3 j4 ⊢
    have u1 := SqT.of (K := K) (upd_same (H := Y0) (a := p1) (o := .tup [.int 999999, .bl true]))
    have o1 := same_upd (o := .tup [.int 999999, .bl true]) j1
    generalize upd Y0 p1 (.tup [.int 999999, .bl true]) = Y1 at u1 o1 j2 j3 j4 ⊢
    have u2 := SqT.of (K := K) (upd_same (H := Y1) (a := p2) (o := .tup [.int ((10 : Int) ^ (6 : Int).toNat), .bl false]))
    have o2 := same_upd (o := .tup [.int ((10 : Int) ^ (6 : Int).toNat), .bl false]) j2
    generalize upd Y1 p2 (.tup [.int ((10 : Int) ^ (6 : Int).toNat), .bl false]) = Y2 at u2 o2 j3 j4 ⊢
    have u3 := SqT.of (K := K) (upd_same (H := Y2) (a := p3) (o := .tup [.bl true, .bl false]))
    have o3 := same_upd (o := .tup [.bl true, .bl false]) j3
    generalize upd Y2 p3 (.tup [.bl true, .bl false]) = Y3 at u3 o3 j4 ⊢
    have u4 := SqT.of (K := K) (upd_same (H := Y3) (a := PT) (o := .tup [.ref p0, .ref p1, .ref p2, .ref p3]))
    have o4 := same_upd (o := .tup [.ref p0, .ref p1, .ref p2, .ref p3]) j4
    generalize upd Y3 PT (.tup [.ref p0, .ref p1, .ref p2, .ref p3]) = Z at u4 o4 ⊢
    have o34 := o3.trans o4
    have o24 := o2.trans o34
    have o14 := o1.trans o24
    have sZ : Same H Z := s7.trans (o0.trans o14)
    have grZ := gr.same (o0.trans o14)
    have four : ∀ xv ∈ [V.ref p0, .ref p1, .ref p2, .ref p3], ∃ p v b d, xv = .ref p ∧ SqT K Z p [v, .bl b] ∧ (∀ Y, Dp K Y v d) ∧ (∀ n, Sm n d) ∧ worthB d = b := by
      intro xv hxv
      simp only [List.mem_cons, List.not_mem_nil, or_false] at hxv
      rcases hxv with rfl | rfl | rfl | rfl
      · exact ⟨p0, _, _, _, rfl, Same.seqT o14 u0, fun _ => .int _, fun _ => .int _ _, rfl⟩
      · exact ⟨p1, _, _, _, rfl, Same.seqT o24 u1, fun _ => .int _, fun _ => .int _ _, by decide⟩
      · exact ⟨p2, _, _, _, rfl, Same.seqT o34 u2, fun _ => .int _, fun _ => .int _ _, by decide⟩
      · exact ⟨p3, _, _, _, rfl, Same.seqT o4 u3, fun _ => .bl _, fun _ => .bl _ _, rfl⟩
    refine ⟨PT, rfl, ⟨_, u4⟩, for_tup (K := K) (a := PT) (xs := [.ref p0, .ref p1, .ref p2, .ref p3]) (fun i σ Y => ∃ y2 y3 y4 y5 y6, σ = [some (.ref L), some (.ref x), y2, y3, y4, y5, y6] ∧ Same Z Y) ⟨_, _, _, _, _, rfl, Same.refl Z⟩ (fun i σ Y _ ⟨_, _, _, _, _, _, h⟩ => Same.seqT h u4) ?_ ?_⟩
    · rintro i xv σ Y hx ⟨y2, y3, y4, y5, y6, rfl, sY⟩
      obtain ⟨p, v, b, d, rfl, hp, hv, hsm, hw⟩ := four xv (List.mem_of_getElem? hx)
      refine ⟨p, _, rfl, Same.seqT sY hp, rfl, _, _, rfl, _, _, rfl, rfl, ?_⟩
      refine ⟨_, rfl, by show 0 ≤ sizeLine; decide, fun e1 n1 => ⟨by show 3 ≤ sizeLine; decide, fun t1 m1 => ⟨_, rfl, by show 0 ≤ sizeLine; decide, fun e2 n2 => ⟨by show 3 ≤ sizeLine; decide, fun t2 m2 => ⟨_, _, rfl, ?_⟩⟩⟩⟩⟩
      have a1 := tup_new (K := K) n1 .nil
      have b1 := same_upd (o := .tup []) n1
      generalize upd Y e1 (.tup []) = A1 at a1 b1 m1 n2 m2 ⊢
      have a2 := tup_new (K := K) m1 (.cons (.str "leaf") (.cons (hv _) (.cons a1 .nil)))
      have b2 := b1.trans (same_upd (o := .tup [.str "leaf", v, .ref e1]) m1)
      generalize upd A1 t1 (.tup [.str "leaf", v, .ref e1]) = A2 at a2 b2 n2 m2 ⊢
      have a3 := tup_new (K := K) n2 .nil
      have b3 := same_upd (o := .tup []) n2
      generalize upd A2 e2 (.tup []) = A3 at a3 b3 m2 ⊢
      have a4 := tup_new (K := K) m2 (.cons (.str "leaf") (.cons (hv _) (.cons a3 .nil)))
      have b4 := b3.trans (same_upd (o := .tup [.str "leaf", v, .ref e2]) m2)
      generalize upd A3 t2 (.tup [.str "leaf", v, .ref e2]) = A4 at a4 b4 ⊢
      rw [s_leaf] at a2 a4
      have a2 := dp_same b4 a2
      have sA : Same Z A4 := sY.trans (b2.trans b4)
      refine ⟨38, rfl, by decide, by decide, for_range (lo := 0) (n := Int.toNat 38) (fun i σ Y => ∃ dv wv y6, σ = [some (.ref L), some (.ref x), some v, some (.bl b), some dv, some wv, y6] ∧ Same Z Y ∧ Dp K Y dv (deepD d i) ∧ Dp K Y wv (wideD d i))
        ⟨_, _, _, rfl, sA, a2, a4⟩ ?_ ?_⟩
      · rintro i σ Y hi ⟨dv, wv, y6, rfl, sY, hdv, hwv⟩
        rw [Int.zero_add]
        refine ⟨_, rfl, _, rfl, by show 1 ≤ sizeLine; decide, fun e1 n1 => ⟨by show 3 ≤ sizeLine; decide, fun t1 m1 => ⟨_, rfl, by show 0 ≤ sizeLine; decide, fun e2 n2 => ⟨by show 3 ≤ sizeLine; decide, fun t2 m2 => ⟨_, rfl, by show 2 ≤ sizeLine; decide, fun e3 n3 => ⟨by show 3 ≤ sizeLine; decide, fun t3 m3 => ⟨_, _, rfl, ?_⟩⟩⟩⟩⟩⟩⟩
        have a1 := tup_new (K := K) n1 (.cons hdv .nil)
        have b1 := same_upd (o := .tup [dv]) n1
        generalize upd Y e1 (.tup [dv]) = A1 at a1 b1 m1 n2 m2 n3 m3 ⊢
        have a2 := tup_new (K := K) m1 (.cons (.str "one") (.cons (.int (i : Nat)) (.cons a1 .nil)))
        have b2 := b1.trans (same_upd (o := .tup [.str "one", .int (i : Nat), .ref e1]) m1)
        generalize upd A1 t1 (.tup [.str "one", .int (i : Nat), .ref e1]) = A2 at a2 b2 n2 m2 n3 m3 ⊢
        have a3 := tup_new (K := K) n2 .nil
        have b3 := same_upd (o := .tup []) n2
        generalize upd A2 e2 (.tup []) = A3 at a3 b3 m2 n3 m3 ⊢
        have a4 := tup_new (K := K) m2 (.cons (.str "leaf") (.cons (.int (i : Nat)) (.cons a3 .nil)))
        have b4 := b3.trans (same_upd (o := .tup [.str "leaf", .int (i : Nat), .ref e2]) m2)
        generalize upd A3 t2 (.tup [.str "leaf", .int (i : Nat), .ref e2]) = A4 at a4 b4 n3 m3 ⊢
        have a5 := tup_new (K := K) n3 (.cons a4 (.cons (dp_same (b2.trans b4) hwv) .nil))
        have b5 := same_upd (o := .tup [.ref t2, wv]) n3
        generalize upd A4 e3 (.tup [.ref t2, wv]) = A5 at a5 b5 m3 ⊢
        have a6 := tup_new (K := K) m3 (.cons (.str "two") (.cons (.int 7) (.cons a5 .nil)))
        have b6 := b5.trans (same_upd (o := .tup [.str "two", .int 7, .ref e3]) m3)
        generalize upd A5 t3 (.tup [.str "two", .int 7, .ref e3]) = A6 at a6 b6 ⊢
        rw [s_one] at a2
        rw [s_leaf, s_two] at a6
        exact ⟨_, _, _, rfl, sY.trans ((b2.trans b4).trans b6), dp_same (b4.trans b6) a2, a6⟩
      · rintro σ Y ⟨dv, wv, y6, rfl, sY, hdv, hwv⟩
        have hdv : Dp K Y dv (deepD d 38) := hdv
        have hwv : Dp K Y wv (wideD d 38) := hwv
        have e1 : isTr grMs 57 none (deepD d 38) = b := by rw [gr_deep 38 57 (due := none) (by decide) (by decide) rfl]; exact hw
        have e2 : isTr grMs 57 (some (SX.S wS)) (wideD d 38) = b := by rw [gr_wide 38 57 (by decide) (by decide) due_s]; exact hw
        have up : ∀ {t : PyData}, Sm (2 * (38 + 1)) t → Sm (2 * 57) t := fun h => h.up (by decide)
        refine ⟨_, rfl, _, rfl, _, x, dv, none, deepD d 38, grRs, grMs, [], 0, rfl, grZ.same sY, hnd, hdv, up (sm_deep hsm 38), by decide, fun B1 c1 => ?_⟩
        rw [e1]
        refine ⟨_, rfl, _, rfl, rfl, rfl, _, x, wv, some (SX.S wS), wideD d 38, grRs, grMs, [], 0, by rw [s_s]; rfl, grZ.same (sY.trans c1), hnd, dp_same c1 hwv, up (sm_wide hsm 38), by decide, fun B2 c2 => ?_⟩
        rw [e2]
        refine ⟨by show 2 ≤ sizeLine; decide, fun l1 n1 => ⟨_, rfl, _, rfl, by show 2 ≤ sizeLine; decide, fun l2 n2 => ?_⟩⟩
        have h1 := upd_same (H := B2) (a := l1) (o := .lst [.bl b, .bl b])
        have c3 := same_upd (o := .lst [.bl b, .bl b]) n1
        have h2 := upd_same (H := upd B2 l1 (.lst [.bl b, .bl b])) (a := l2) (o := .lst [.bl b, .bl b])
        have c4 := same_upd (o := .lst [.bl b, .bl b]) n2
        refine ⟨.ref l1, .ref l2, .list [.bool b, .bool b], rfl, .lst (SqL.of (c4 _ _ h1)) (.cons (.bl b) (.cons (.bl b) .nil)), .lst (SqL.of h2) (.cons (.bl b) (.cons (.bl b) .nil)), .lst _ (by show 2 ≤ 500; decide) (fun y hy => ?_), fun B3 c5 => ⟨_, rfl, iteF ?_⟩⟩
        · simp only [List.mem_cons, List.not_mem_nil, or_false, or_self] at hy
          rw [hy]
          exact .bl _ b
        · exact ⟨_, _, _, _, _, rfl, ((sY.trans c1).trans c2).trans ((c3.trans c4).trans c5)⟩
    · rintro σ Y ⟨y2, y3, y4, y5, y6, rfl, sY⟩
      refine ⟨_, rfl, by show 0 ≤ sizeLine; decide, fun e1 n1 => ⟨by show 3 ≤ sizeLine; decide, fun t1 m1 => ?_⟩⟩
      have a1 := tup_new (K := K) n1 .nil
      have b1 := same_upd (o := .tup []) n1
      generalize upd Y e1 (.tup []) = A1 at a1 b1 m1 ⊢
      have a2 := tup_new (K := K) m1 (.cons (.str "leaf") (.cons (.int 0) (.cons a1 .nil)))
      have b2 := b1.trans (same_upd (o := .tup [.str "leaf", .int 0, .ref e1]) m1)
      generalize upd A1 t1 (.tup [.str "leaf", .int 0, .ref e1]) = A2 at a2 b2 ⊢
      rw [s_leaf] at a2
      refine ⟨rfl, rfl, _, x, _, some (SX.S wT), nodeD wLf (.int 0) [], grRs, grMs, [], 0, by rw [s_t]; rfl, grZ.same (sY.trans b2), hnd, a2, sm_node (.int _ _) (by decide) (fun _ h => nomatch h), by decide, fun B1 c1 => ?_⟩
      have e : isTr grMs 57 (some (SX.S wT)) (nodeD wLf (.int 0) []) = false := by
        rw [node_gr (n := 56) mem_lf rfl, show dueB (some (SX.S wT)) (SX.S wS) = false by decide +kernel]
        simp
      rw [e]
      exact ⟨_, _, rfl, rfl, q _ ((sZ.trans sY).trans (b2.trans c1))⟩
end
/-! ### the law -/
abbrev s__law_right : Stmt := top 75
abbrev N__law_right : List Str := ["_law_box", "_law_g", "_law_grammar", "_law_kinds", "_law_turn", "_law_tree", "_law_things", "_law_thing", "_law_kept", "_law_due", "_law_wanted", "_law_found"]
abbrev P__law_right : List Str := ["_law_box"]
theorem sc__law_right : FnScope N__law_right P__law_right (defScope s__law_right) := ⟨rfl, rfl, rfl, by decide +kernel, rfl, by decide +kernel, by decide +kernel⟩
abbrev s_law : Stmt := top 76
abbrev N_law : List Str := ["_law_script", "_law_cells", "_law_k"]
abbrev P_law : List Str := ["_law_script"]
theorem sc_law : FnScope N_law P_law (defScope s_law) := ⟨rfl, rfl, rfl, by decide +kernel, rfl, by decide +kernel, by decide +kernel⟩
theorem pe_c0 {X : Cx} {k j : Nat} {x : Str} {sp : Sp} {dvs : List V} {p pos : Pos} (c : C8.Cal X.prog X.w X.K X.mg X.base k x sp dvs) (hr : Room j X.A) (hk : k ≤ j) (hg : Gl X x) (hdb : (x == ("__debug__" : Str)) = false := by decide) : PE X (.Call (.Name x p) [] [] pos) (tCall sp dvs E0 tNil) := by
  obtain ⟨f, fd, ps, ds, F, g, kp, b, d⟩ := c
  exact pe_call0 F (hr.mono hk) hg g kp b d pass0 hdb
/-- repr of deeper data -/
def rReprE (K : PySem.W.Frag) : List V → Hp → VK → Prop := fun xs H Q => ∃ (v : V) (d : PyData), xs = [v] ∧ Dp K H v d ∧ d.showable = true ∧ d.hasDict = false ∧ d.depth ≤ 190 ∧ d.shown.length ≤ sizeLine ∧ Q (.str d.shown) H
theorem cr_reprE {X : Cx} {j : Nat} (hg : X.A.guards = some []) (hr : Room j X.A) : CallR X (.builtin "repr") (rReprE X.K) := by
  intro pins s σ H xs us Q I r h
  obtain ⟨v, d, rfl, hd, hs, hn, hp, hz, q⟩ := h
  cases r with
  | cons r1 rr =>
    cases rr
    have un := hr.un
    cases hd with
    | non =>
      cases (show _ = Value.none from r1)
      exact PySem.P.repr_of_none ⟨.str "None", H, I.tok _, ⟨_, rfl⟩, q⟩
    | bl b =>
      cases (show _ = Value.bool b from r1)
      exact PySem.P.repr_of_bool ⟨.str (PyData.shown (.bool b)), H, I.tok _, ⟨_, by cases b <;> rfl⟩, q⟩
    | int i =>
      obtain ⟨t, rfl⟩ := (show ∃ t, _ = Value.int i t from r1)
      exact PySem.P.repr_of_int (of_decide_eq_true hs) ⟨.str (PyData.shown (.int i)), H, I.tok _, ⟨_, rfl⟩, q⟩
    | str z =>
      obtain ⟨t, rfl⟩ := (show ∃ t, _ = Value.str z t from r1)
      exact PySem.P.repr_of_str ⟨.str (PyData.shown (.str z)), H, I.tok _, ⟨_, rfl⟩, q⟩ hz
    | lst h1 h2 =>
      rename_i a xs ds
      obtain rfl : _ = Value.ref a := r1
      obtain ⟨as, rd⟩ := Dp.reads I (.list ds) (.ref a) (.ref a) (.lst h1 h2) rfl
      exact repr_of_reads' rd hs (PyData.noDict_hsm hn) hg (by omega) (fun _ _ e => e) (fun h' u tk hk => ⟨.str _, H, I.kept (t' := tk) hk, ⟨_, rfl⟩, q⟩) hz
    | tup h1 h2 =>
      rename_i a xs ds
      obtain rfl : _ = Value.ref a := r1
      obtain ⟨as, rd⟩ := Dp.reads I (.tuple ds) (.ref a) (.ref a) (.tup h1 h2) rfl
      exact repr_of_reads' rd hs (PyData.noDict_hsm hn) hg (by omega) (fun _ _ e => e) (fun h' u tk hk => ⟨.str _, H, I.kept (t' := tk) hk, ⟨_, rfl⟩, q⟩) hz
structure Ri4 (mg : Str → Option Value) : Prop where
  range : mg "range" = none
  all : mg "all" = none
  max : mg "max" = none
  len : mg "len" = none
  sorted : mg "sorted" = none
  repr : mg "repr" = none
def spRight4 : Sp := fun vs H Q _ => ∃ (a : Addr) (b : List V), vs = [.ref a] ∧ H a = some (.lst b) ∧ BoxL 0 b ∧ ∀ H', But a H H' → Q (.bl true) H'
def spLaw (K : PySem.W.Frag) : Sp := fun vs H Q _ => ∃ (a : Addr) (ns : List Int), vs = [.ref a] ∧ SqL K H a (ns.map V.int) ∧ ns.length ≤ 63 ∧ ∀ H', Q (.bl true) H'
theorem But.at_ {a D : Addr} {X Z : Hp} {o : HO} (h : But a X Z) (n : X D = none) : But a X (L2.upd Z D o) := fun b u nb e => by
  rw [upd_ne (ne_of_none e n)]
  exact h b u nb e
/-- what stands all along -/
structure Cg (K : PySem.W.Frag) (P : Program) (w : World) (C : Addr) (H Z X : Hp) (a gd x lk : Addr) (ks : List V) (rs : List SRow) (ms : List MRow) (ru : List RRow) (roof n : Nat) : Prop where
  bt : But a H X
  zn : Z a ≠ none
  gi : GramIn K X a gd rs ms ru roof
  gr : GrOk K P w C Z X x rs ms ru roof
  hk : X lk = some (.lst ks)
  nk : lk ≠ a
  hb : Bx a n X
theorem Cg.go {K : PySem.W.Frag} {P : Program} {w : World} {C : Addr} {H Z X Y : Hp} {a gd x lk : Addr} {ks : List V} {rs : List SRow} {ms : List MRow} {ru : List RRow} {roof n n' : Nat} (c : Cg K P w C H Z X a gd x lk ks rs ms ru roof n) (t : But a X Y) (hb : Bx a n' Y) : Cg K P w C H Z Y a gd x lk ks rs ms ru roof n' := by
  obtain ⟨b, h1, h2⟩ := c.hb
  exact ⟨c.bt.trans t, c.zn, c.gi.go h1 t, c.gr.but c.zn h1 t, t _ _ c.nk c.hk, c.nk, hb⟩
theorem Cg.same {K : PySem.W.Frag} {P : Program} {w : World} {C : Addr} {H Z X Y : Hp} {a gd x lk : Addr} {ks : List V} {rs : List SRow} {ms : List MRow} {ru : List RRow} {roof n : Nat} (c : Cg K P w C H Z X a gd x lk ks rs ms ru roof n) (s : Same X Y) : Cg K P w C H Z Y a gd x lk ks rs ms ru roof n := c.go (But.of s) (c.hb.same s)
/-- things, off the box -/
def Ths (K : PySem.W.Frag) (a lt : Addr) (ts : List V) (X : Hp) : Prop := X lt = some (.lst ts) ∧ lt ≠ a ∧ ∀ v ∈ ts, ∃ d, Dp K (del X a) v d ∧ TB 113 400 d
theorem Ths.but {K : PySem.W.Frag} {a lt : Addr} {ts : List V} {X Y : Hp} (h : Ths K a lt ts X) (t : But a X Y) : Ths K a lt ts Y := ⟨t _ _ h.2.1 h.1, h.2.1, fun v hv => by
  obtain ⟨d, h1, h2⟩ := h.2.2 v hv
  exact ⟨d, dp_same (del_but t) h1, h2⟩⟩
section
variable {P : Program} {w : World} {K : PySem.W.Frag} {mg : Str → Option Value} {base : Heap} {C : Addr}
theorem ok_right4 (T : Ri4 mg) (c_law_one_of : C8.Cal P w K mg base 2 "_law_one_of" (spOneOf K) []) (c_law_any : C8.Cal P w K mg base 5 "_law_any" (spAny K) []) (c_law_made : C8.Cal P w K mg base 8 "_law_made" (spMade K P w C) []) (c_law_tree_of : C8.Cal P w K mg base 32 "_law_tree_of" (spTreeOf K) [])
    (c_law_odd : C8.Cal P w K mg base 2 "_law_odd" (spOdd K) []) (c_law_bent : C8.Cal P w K mg base 64 "_law_bent" (spBent K) []) (c_law_is : C8.Cal P w K mg base 58 "_law_is" (spLawIs K 57) []) (c_law_same : C8.Cal P w K mg base 125 "_law_same" (spSame K 124) []) (c_law_great_right : C8.Cal P w K mg base 179 "_law_great_right" spGreat [])
    (cis_tree0 : C8.Cal P w K mg base 178 "is_tree" (spIsTree K P w C 114 57) [.non]) (cis_tree : KCal P w K mg base 178 "is_tree" (spIsTree K P w C 114 57) 2 ["sort"] (fun vs zs => vs ++ zs)) (D : Dd K mg "_law_right" s__law_right P__law_right) : CalG P w K mg base 180 "_law_right" spRight4 := by
  obtain ⟨f, fd, F, g, bd⟩ := D.ex
  refine ⟨f, fd, _, fng_of F sc__law_right (fun vs H Q E h => ?_) (fun cdv A outer s H vs Q E hg hr h => ?_), g, F.kp, bd⟩
  · obtain ⟨a, b, rfl, _⟩ := h
    rfl
  · obtain ⟨a, b, rfl, ha, hB, q⟩ := h
    refine ⟨_, (pss_cons (ps_set (i := 1) sc__law_right.nd rfl (Or.inl rfl) (C8.pe_c c_law_any hr (by decide) (by rfl) (pa_cons (pv 0) pa_nil)))
        (pss_cons (ps_par rfl sc__law_right.nd (i := 2) (j := 3) rfl rfl (by decide) rfl rfl (pa_cons (C8.pe_c c_law_made hr (by decide) (by rfl) (pa_cons (pv 1) pa_nil)) (pa_cons (pe_op op_cat (pe_op op_cat (pe_lst (pa_cons pe_non pa_nil)) (pe_callB (call_sortedD rfl) (by rfl) T.sorted (by decide +kernel) (pa_cons (pe_dget (hu_of hr) (pv 1) pe_str (fun _ _ => rfl)) pa_nil))) (pe_lst (pa_cons pe_str pa_nil))) pa_nil)) (by rfl))
        (pss_cons (ps_for PassesOwn.never rfl (pi_range1 rfl T.range (pa_cons pe_int pa_nil)) (pg_name (i := 4) sc__law_right.nd rfl (Or.inl rfl))
          (pss_cons (ps_par rfl sc__law_right.nd (i := 5) (j := 6) rfl rfl (by decide) rfl rfl (pa_cons (C8.pe_c c_law_tree_of hr (by decide) (by rfl) (pa_cons (pv 0) (pa_cons (pv 1) (pa_cons pe_int pa_nil)))) (pa_cons (pe_lst (pa_cons (C8.pe_c c_law_odd hr (by decide) (by rfl) (pa_cons (pv 0) pa_nil)) pa_nil)) pa_nil)) (by rfl))
        (C8.pss_cut (ps_if (pt_cmpR op_notN (pv 5) pe_non (nomark _))
          (pss_one (ps_set (i := 6) sc__law_right.nd rfl (Or.inl rfl) (pe_op op_cat (pv 6) (pe_lst (pa_cons (pv 5) (pa_cons (C8.pe_c c_law_bent hr (by decide) (by rfl) (pa_cons (pv 0) (pa_cons (pv 1) (pa_cons (pv 5) pa_nil)))) (pa_cons (C8.pe_c c_law_bent hr (by decide) (by rfl) (pa_cons (pv 0) (pa_cons (pv 1) (pa_cons (pv 5) pa_nil)))) (pa_cons (C8.pe_c c_law_bent hr (by decide) (by rfl) (pa_cons (pv 0) (pa_cons (pv 1) (pa_cons (pv 5) pa_nil)))) pa_nil))))))))
          pss_nil)
        (pss_one (ps_for PassesOwn.never rfl (pi_list (pv 6)) (pg_name (i := 7) sc__law_right.nd rfl (Or.inl rfl))
          (pss_cons (ps_par rfl sc__law_right.nd (i := 8) (j := 9) rfl rfl (by decide) rfl rfl (pa_cons (pe_callB (cr_reprE hg hr) (by rfl) T.repr (by decide +kernel) (pa_cons (pv 7) pa_nil)) (pa_cons (C8.pe_c c_law_one_of hr (by decide) (by rfl) (pa_cons (pv 0) (pa_cons (pv 3) pa_nil))) pa_nil)) (by rfl))
        (pss_cons (ps_set (i := 10) sc__law_right.nd rfl (Or.inl rfl) (pe_lst (pa_cons (C8.pe_c c_law_is hr (by decide) (by rfl) (pa_cons (pv 1) (pa_cons (pv 7) (pa_cons pe_non pa_nil)))) (pa_cons (C8.pe_c c_law_is hr (by decide) (by rfl) (pa_cons (pv 1) (pa_cons (pv 7) (pa_cons (pv 9) pa_nil)))) pa_nil))))
        (pss_cons (ps_set (i := 11) sc__law_right.nd rfl (Or.inl rfl) (pe_lst (pa_cons (C8.pe_c cis_tree0 hr (by decide) (by rfl) (pa_cons (pv 2) (pa_cons (pv 7) pa_nil))) (pa_cons (pe_kw cis_tree hr (by decide) (by rfl) (pa_cons (pv 2) (pa_cons (pv 7) pa_nil)) (pk_cons (pv 9) pk_nil)) pa_nil))))
        (pss_one (ps_if (PW.pt (pw_or (pt_not (pt_val (C8.pe_c c_law_same hr (by decide) (by rfl) (pa_cons (pv 11) (pa_cons (pv 10) pa_nil))))) (pw_or1 (pt_cmpR op_ne (pe_callB (cr_reprE hg hr) (by rfl) T.repr (by decide +kernel) (pa_cons (pv 7) pa_nil)) (pv 8) (nomark _)))))
          (pss_one (ps_ret pe_bl))
          pss_nil))))))))))
        (pss_one (ps_ret (pe_c0 c_law_great_right hr (by decide) (by rfl))))))), ?_⟩
    -- a grammar, kinds
    refine ⟨_, rfl, a, 0, b, rfl, ha, hB, by decide, fun H1 gd rs ms ru roof b1 bt1 ngd gi go hb1 hB1 => ?_⟩
    refine ⟨_, rfl, a, gd, rs, ms, ru, roof, rfl, gi, gfit go, fun H2 x s2 nx gr => ?_⟩
    obtain ⟨ls, lm, lr, of, kvs, gs, _⟩ := gi.ex
    obtain ⟨ofk, hof, oks, _⟩ := gs.hof
    have getof : ∀ {Y : Hp}, Same H2 Y → DGet Y gd (.str "of") (some (.ref of)) := fun {Y} sY => by
      have h := DGet.k (k := Sum.inr "of") (sY _ _ (s2 _ _ gs.hgd))
      rw [gs.ofv] at h
      exact h
    refine ⟨by show 1 ≤ sizeLine; decide, fun p1 n1 => ?_⟩
    have t1 := same_upd (o := .lst [.non]) n1
    have r4 := go.so.le
    refine ⟨_, rfl, gd, .ref of, rfl, getof t1, of, ofk, rs.map (fun r => SX.S r.nm), rfl, Rd.of (t1 _ _ (s2 _ _ hof)), by rw [oks, List.map_map]; rfl, by rw [List.length_map]; omega, fun ys p2 hperm _ n2 => ?_⟩
    have ly : ys.length = rs.length := by rw [hperm.length_eq, List.length_map]
    have h1 := upd_same (H := H2) (a := p1) (o := .lst [.non])
    generalize upd H2 p1 (.lst [.non]) = Y1 at t1 h1 n2 ⊢
    have h2 := upd_same (H := Y1) (a := p2) (o := .lst (ys.map V.str))
    have t2 := same_upd (o := .lst (ys.map V.str)) n2
    generalize upd Y1 p2 (.lst (ys.map V.str)) = Y2 at h2 t2 ⊢
    refine ⟨p1, p2, [.non], ys.map V.str, rfl, rfl, t2 _ _ h1, h2, Nat.le_trans (show _ ≤ 5 from by rw [List.length_map, ly]; show 1 + rs.length ≤ 5; omega) (by decide), fun p3 n3 => ?_⟩
    have h3 := upd_same (H := Y2) (a := p3) (o := .lst ([.non] ++ ys.map V.str))
    have t3 := same_upd (o := .lst ([.non] ++ ys.map V.str)) n3
    generalize upd Y2 p3 (.lst ([.non] ++ ys.map V.str)) = Y3 at h3 t3 ⊢
    refine ⟨by show 1 ≤ sizeLine; decide, fun p4 n4 => ?_⟩
    have h4 := upd_same (H := Y3) (a := p4) (o := .lst [.str "zz"])
    have t4 := same_upd (o := .lst [.str "zz"]) n4
    generalize upd Y3 p4 (.lst [.str "zz"]) = Y4 at h4 t4 ⊢
    have lks : ([V.non] ++ ys.map V.str ++ [V.str "zz"]).length = rs.length + 2 := by
      rw [List.length_append, List.length_append, List.length_map, ly]
      show 1 + _ + 1 = _
      omega
    refine ⟨p3, p4, _, _, rfl, rfl, t4 _ _ h3, h4, Nat.le_trans (show _ ≤ 7 from by rw [List.length_append] at lks; omega) (by decide), fun lk n5 => ?_⟩
    have h5 := upd_same (H := Y4) (a := lk) (o := .lst ([V.non] ++ ys.map V.str ++ [V.str "zz"]))
    have t5 := same_upd (o := .lst ([V.non] ++ ys.map V.str ++ [V.str "zz"])) n5
    have hkd : ∀ v ∈ [V.non] ++ ys.map V.str ++ [V.str "zz"], ∃ due, v = dueV due := fun v hv => by
      rcases List.mem_append.mp hv with hv | hv
      · rcases List.mem_append.mp hv with hv | hv
        · exact ⟨none, List.mem_singleton.mp hv⟩
        · obtain ⟨y, _, rfl⟩ := List.mem_map.mp hv
          exact ⟨some y, rfl⟩
      · exact ⟨some "zz", List.mem_singleton.mp hv⟩
    have nka : lk ≠ a := fun z => by
      rw [z, (((s2.trans t1).trans t2).trans (t3.trans t4)) _ _ hb1] at n5
      cases n5
    generalize upd Y4 lk (.lst ([V.non] ++ ys.map V.str ++ [V.str "zz"])) = Y5 at h5 t5 ⊢
    generalize [V.non] ++ ys.map V.str ++ [V.str "zz"] = ks at h5 lks hkd
    have s25 : Same H2 Y5 := (t1.trans t2).trans ((t3.trans t4).trans t5)
    have ha1 : H1 a ≠ none := by rw [hb1]; simp
    have c5 : Cg K P w C H H1 Y5 a gd x lk ks rs ms ru roof 8010 := ⟨bt1.trans (But.of (s2.trans s25)), ha1, gi.go hb1 (But.of (s2.trans s25)), gr.same s25, h5, nka, ⟨b1, (s2.trans s25) _ _ hb1, hB1.mono (by decide)⟩⟩
    clear h1 h2 h3 h4 t1 t2 t3 t4 t5 n1 n2 n3 n4 n5
    have hms : ∀ m ∈ ms, NmOk m.nm ∧ m.pt.length ≤ 2 := fun m hm => ⟨(go.ok m hm).nm, (go.ok m hm).p2⟩
    have rs1 := go.s1
    refine ⟨_, _, rfl, 10, rfl, by decide, by decide, for_range (lo := 0) (n := Int.toNat 10) (fun i σ Y => ∃ y4 y5 y6 y7 y8 y9 y10 y11, σ = [some (.ref a), some (.ref gd), some (.ref x), some (.ref lk), y4, y5, y6, y7, y8, y9, y10, y11] ∧ Cg K P w C H H1 Y a gd x lk ks rs ms ru roof (8010 + 10200 * i))
      ⟨_, _, _, _, _, _, _, _, rfl, c5⟩ ?_ ?_⟩
    · rintro i σ X hi ⟨y4, y5, y6, y7, y8, y9, y10, y11, rfl, c⟩
      have hi : i < 10 := hi
      obtain ⟨b0, hb0, hB0⟩ := c.hb
      -- a tree, things
      refine ⟨_, rfl, _, rfl, a, gd, rs, ms, ru, roof, 20, _, b0, rfl, c.gi, go, by decide, by decide, hb0, hB0, by omega, fun X1 tv b2 bt2 hb2 hB2 ht => ?_⟩
      have c2 := c.go bt2 ⟨b2, hb2, hB2⟩
      refine ⟨_, rfl, a, _, rfl, c2.hb, by omega, fun X2 ov od bt3 hB3 hod hot => ⟨by show 1 ≤ sizeLine; decide, fun l1 nl1 => ⟨_, _, rfl, ?_⟩⟩⟩
      have ht2 : tv = .non ∨ ∃ d k, Dp K X2 tv d ∧ Tr 28 k d ∧ k ≤ 35 := ht.imp id fun ⟨d, k, kind, h1, h2, h3⟩ => ⟨d, k, dp_imm (KeepT.but hb2 bt3) h1 (gt_tr hms h2).imm, gt_tr hms h2, h3⟩
      have c3 := c2.go bt3 hB3
      have s4 := same_upd (o := .lst [ov]) nl1
      have hl1 := upd_same (H := X2) (a := l1) (o := .lst [ov])
      have nl1a : l1 ≠ a := fun z => hB3.ne (by rw [← z]; exact nl1)
      have c4 := c3.same s4
      have ht4 : tv = .non ∨ ∃ d k, Dp K (upd X2 l1 (.lst [ov])) tv d ∧ Tr 28 k d ∧ k ≤ 35 := ht2.imp id fun ⟨d, k, h1, h2, h3⟩ => ⟨d, k, dp_same s4 h1, h2, h3⟩
      have th4 : Ths K a l1 [ov] (upd X2 l1 (.lst [ov])) := ⟨hl1, nl1a, fun v hv => by
        rw [List.mem_singleton.mp hv]
        exact ⟨od, dp_same (del_but (But.of s4)) hod, hot.mono (by decide) (by decide)⟩⟩
      generalize upd X2 l1 (.lst [ov]) = X4 at c4 ht4 th4 ⊢
      refine ⟨fun σ Y => ∃ y5 y7 y8 y9 y10 y11 lt ts, σ = [some (.ref a), some (.ref gd), some (.ref x), some (.ref lk), some (.int (0 + (i : Nat))), y5, some (.ref lt), y7, y8, y9, y10, y11] ∧ Cg K P w C H H1 Y a gd x lk ks rs ms ru roof (8010 + 10200 * i + 10000 + 1 + 90) ∧ Ths K a lt ts Y ∧ ts.length ≤ 5, ?_, ?_⟩
      · refine ⟨_, rfl, rfl, _, rfl, ?_⟩
        rcases ht4 with rfl | ⟨d, k, htd, htr, hk⟩
        · exact ifF (by rw [decide_eq_true rfl]; rfl) ⟨_, _, _, _, _, _, l1, [ov], rfl, c4.go (But.refl a X4) (c4.hb.mono (by omega)), th4, by show 1 ≤ 5; decide⟩
        · have nx : tv ≠ .non := fun z => by
            rw [z] at htd
            cases htr
            cases htd
          refine ifT (by rw [decide_eq_false nx]; rfl) ?_
          obtain ⟨b4, hb4, hB4⟩ := c4.hb
          have hdel : Dp K (del X4 a) tv d := dp_imm (del_keep hb4) htd htr.imm
          have at_ : ∀ {Y : Hp}, But a X4 Y → Dp K Y tv d := fun bt => dp_same del_sub (dp_same (del_but bt) hdel)
          refine ⟨_, rfl, _, rfl, ?_⟩
          refine ⟨_, rfl, _, rfl, _, rfl, a, gd, tv, rs, ms, ru, roof, _, k, d, rfl, c4.gi, go, c4.hb, by omega, htd, htr, hk, fun Z1 v1 d1 q1 hZ1 w1 e1 => ?_⟩
          have c5 := c4.go q1 hZ1
          refine ⟨_, rfl, _, rfl, _, rfl, a, gd, tv, rs, ms, ru, roof, _, k, d, rfl, c5.gi, go, c5.hb, by omega, at_ q1, htr, hk, fun Z2 v2 d2 q2 hZ2 w2 e2 => ?_⟩
          have c6 := c5.go q2 hZ2
          refine ⟨_, rfl, _, rfl, _, rfl, a, gd, tv, rs, ms, ru, roof, _, k, d, rfl, c6.gi, go, c6.hb, by omega, at_ (q1.trans q2), htr, hk, fun Z3 v3 d3 q3 hZ3 w3 e3 => ?_⟩
          have c7 := c6.go q3 hZ3
          refine ⟨by show 4 ≤ sizeLine; decide, fun l2 nl2 => ?_⟩
          have s5 := same_upd (o := .lst [tv, v1, v2, v3]) nl2
          have hl2 := upd_same (H := Z3) (a := l2) (o := .lst [tv, v1, v2, v3])
          have q13 := (q1.trans q2).trans q3
          refine ⟨l1, l2, [ov], [tv, v1, v2, v3], rfl, rfl, s5 _ _ (q13 _ _ th4.2.1 th4.1), hl2, by show 1 + 4 ≤ sizeLine; decide, fun l3 nl3 => ?_⟩
          have s6 := same_upd (o := .lst ([ov] ++ [tv, v1, v2, v3])) nl3
          have s56 := s5.trans s6
          have c8 := c7.same s56
          have nl3a : l3 ≠ a := fun z => by
            rw [z] at nl3
            obtain ⟨b7, hb7, _⟩ := c7.hb
            rw [s5 _ _ hb7] at nl3
            cases nl3
          have dd := del_but (a := a) (But.of s56)
          refine ⟨_, _, _, _, _, _, l3, [ov] ++ [tv, v1, v2, v3], rfl, c8.go (But.refl a _) (c8.hb.mono (by omega)), ⟨upd_same, nl3a, fun v hv => ?_⟩, by show 5 ≤ 5; decide⟩
          rcases List.mem_append.mp hv with hv | hv
          · obtain ⟨d', h1, h2⟩ := th4.2.2 v hv
            exact ⟨d', dp_same dd (dp_same (del_but q13) h1), h2⟩
          · simp only [List.mem_cons, List.not_mem_nil, or_false] at hv
            rcases hv with rfl | rfl | rfl | rfl
            · exact ⟨d, dp_same dd (dp_same (del_but q13) hdel), htr.tb.mono (by decide) (by omega)⟩
            · exact ⟨d1, dp_same dd (dp_same (del_but (q2.trans q3)) w1), e1⟩
            · exact ⟨d2, dp_same dd (dp_same (del_but q3) w2), e2⟩
            · exact ⟨d3, dp_same dd w3, e3⟩
      rintro σ X5 ⟨y5', y7', y8', y9', y10', y11', lt, ts, rfl, c5, th5, lts⟩
      -- each thing
      refine ⟨_, rfl, lt, rfl, ⟨_, SqL.of th5.1⟩, for_list (K := K) (a := lt) (xs := ts) (fun j σ Y => ∃ y7 y8 y9 y10 y11, σ = [some (.ref a), some (.ref gd), some (.ref x), some (.ref lk), some (.int (0 + (i : Nat))), y5', some (.ref lt), y7, y8, y9, y10, y11] ∧ Cg K P w C H H1 Y a gd x lk ks rs ms ru roof (8010 + 10200 * i + 10000 + 1 + 90 + j) ∧ Ths K a lt ts Y)
        ⟨_, _, _, _, _, rfl, c5, th5⟩ (fun j σ Y _ ⟨_, _, _, _, _, _, _, h⟩ => SqL.of h.1) ?_ ?_⟩
      · rintro j tv σ Y hx ⟨z7, z8, z9, z10, z11, rfl, cY, thY⟩
        have hj : j < ts.length := (List.getElem?_eq_some_iff.mp hx).1
        obtain ⟨d, htd, htb⟩ := thY.2.2 tv (List.mem_of_getElem? hx)
        obtain ⟨w1, w2, w3⟩ := okD_shown htb.ok
        have w4 : d.shown.length ≤ sizeLine := by
          have := htb.wt
          exact Nat.le_trans (show _ ≤ 68 * 400 from by omega) (by decide)
        have w5 : d.depth ≤ 190 := Nat.le_trans htb.dp (by decide)
        have hsm : Sm (2 * 57) d := (htb.sm (by decide)).up (by decide)
        have at_ : ∀ {Z : Hp}, But a Y Z → Dp K Z tv d := fun bt => dp_same del_sub (dp_same (del_but bt) htd)
        obtain ⟨bY, hbY, hBY⟩ := cY.hb
        refine ⟨_, rfl, tv, d, rfl, at_ (But.refl a Y), w1, w2, w5, w4, ?_⟩
        refine ⟨_, rfl, _, rfl, a, lk, _, bY, ks, rfl, hbY, hBY, by omega, SqL.of cY.hk, cY.nk, by omega, by omega, fun i1 dv b' hdv hB' => ⟨_, _, rfl, ?_⟩⟩
        obtain ⟨due, rfl⟩ := hkd dv (List.mem_of_getElem? hdv)
        have qa : But a Y (upd Y a (.lst b')) := But.upd (But.refl a Y)
        have ca := cY.go qa ⟨b', upd_same, hB'⟩
        have tha := thY.but qa
        generalize upd Y a (.lst b') = Ya at qa ca tha ⊢
        -- by the law
        refine ⟨_, rfl, _, rfl, gd, tv, none, d, ms, rfl, ca.gi.byt, go.nd, at_ qa, hsm, fun Z1 s1 => ?_⟩
        refine ⟨_, rfl, _, rfl, _, rfl, gd, tv, due, d, ms, rfl, ca.gi.byt.same s1, go.nd, dp_same s1 (at_ qa), hsm, fun Z2 s2 => ⟨by show 2 ≤ sizeLine; decide, fun l1 nl1 => ?_⟩⟩
        have h1 := upd_same (H := Z2) (a := l1) (o := .lst [.bl (isTr ms 57 none d), .bl (isTr ms 57 due d)])
        have s3 := (s1.trans s2).trans (same_upd (o := .lst [.bl (isTr ms 57 none d), .bl (isTr ms 57 due d)]) nl1)
        generalize upd Z2 l1 (.lst [.bl (isTr ms 57 none d), .bl (isTr ms 57 due d)]) = Z3 at h1 s3 ⊢
        -- by the program
        refine ⟨_, rfl, _, rfl, _, x, tv, none, d, rs, ms, ru, roof, rfl, ca.gr.same s3, go.nd, dp_same s3 (at_ qa), hsm, by decide, fun Z4 s4 => ?_⟩
        refine ⟨_, rfl, _, rfl, _, rfl, rfl, rfl, _, x, tv, due, d, rs, ms, ru, roof, rfl, ca.gr.same (s3.trans s4), go.nd, dp_same (s3.trans s4) (at_ qa), hsm, by decide, fun Z5 s5 => ⟨by show 2 ≤ sizeLine; decide, fun l2 nl2 => ?_⟩⟩
        have h2 := upd_same (H := Z5) (a := l2) (o := .lst [.bl (isTr ms 57 none d), .bl (isTr ms 57 due d)])
        have s6 := (s4.trans s5).trans (same_upd (o := .lst [.bl (isTr ms 57 none d), .bl (isTr ms 57 due d)]) nl2)
        generalize upd Z5 l2 (.lst [.bl (isTr ms 57 none d), .bl (isTr ms 57 due d)]) = Z6 at h2 s6 ⊢
        refine ⟨_, rfl, _, rfl, .ref l2, .ref l1, .list [.bool (isTr ms 57 none d), .bool (isTr ms 57 due d)], rfl, .lst (SqL.of h2) (.cons (.bl _) (.cons (.bl _) .nil)), .lst (SqL.of (s6 _ _ h1)) (.cons (.bl _) (.cons (.bl _) .nil)), .lst _ (by show 2 ≤ 500; decide) (fun y hy => ?_), fun Z7 s7 => ⟨_, rfl, iteF ?_⟩⟩
        · simp only [List.mem_cons, List.not_mem_nil, or_false] at hy
          rcases hy with rfl | rfl
          · exact .bl _ _
          · exact .bl _ _
        have s37 := (s3.trans s6).trans s7
        refine ⟨_, rfl, tv, d, rfl, dp_same s37 (at_ qa), w1, w2, w5, w4, _, rfl, rfl, _, rfl, ?_⟩
        refine ifF (by show (!decide (V.str d.shown = V.str d.shown)) = false; simp) ?_
        exact ⟨_, _, _, _, _, rfl, ca.same s37, tha.but (But.of s37)⟩
      · rintro σ Y ⟨z7, z8, z9, z10, z11, rfl, cY, thY⟩
        exact ⟨_, _, _, _, _, _, _, _, rfl, cY.go (But.refl a Y) (cY.hb.mono (by omega))⟩
    · rintro σ Y ⟨y4, y5, y6, y7, y8, y9, y10, y11, rfl, c⟩
      exact ⟨rfl, fun H' s' => q H' (c.bt.trans (But.of s'))⟩
theorem ok_law4 (T : Ri4 mg) (c_law_folded : C8.Cal P w K mg base 1 "_law_folded" (spFold K) []) (c_law_dip : C8.Cal P w K mg base 1 "_law_dip" (spDip K) []) (c_law_right : CalG P w K mg base 180 "_law_right" spRight4)
    {f : Addr} {fd : FuncData} (F : L2.Fun K "law" "law" s_law f fd) : FnG P w K mg base 181 f fd ["_law_script"] (spLaw K) := by
  refine fng_of F sc_law (fun vs H Q E h => ?_) (fun cdv A outer s H vs Q E hg hr h => ?_)
  · obtain ⟨a, ns, rfl, _⟩ := h
    rfl
  · obtain ⟨a, ns, rfl, hS, hlen, q⟩ := h
    refine ⟨_, (pss_cons (ps_set (i := 1) sc_law.nd rfl (Or.inr rfl) (C8.pe_c c_law_folded hr (by decide) (by rfl) (pa_cons (pv 0) (pa_cons pe_int pa_nil))))
        (pss_one (ps_ret (pe_callB (cr_all rfl) (by rfl) T.all (by decide +kernel) (pa_cons (pe_lc (own := [("_law_k", 2)]) (by exact rfl) sc_law.nd (pi_range1 rfl T.range (pa_cons (pe_callB (call_max2 rfl) (by rfl) T.max (by decide +kernel) (pa_cons pe_int (pa_cons (pe_callB call_len_seq (by rfl) T.len PySem.boot_len (pa_cons (pv 1) pa_nil)) pa_nil))) pa_nil)) (blkOk_by (own := [("_law_k", 2)]) (N := N_law) (sc := defScope s_law) (by decide +kernel)) (fun _ _ _ _ _ => (pg_name (i := 2) sc_law.nd rfl (Or.inl rfl))) (fun _ _ _ _ _ => pts_nil) (fun _ _ _ _ _ => (pe_cG c_law_right hg hr (by decide) (by rfl) (pa_cons (C8.pe_c c_law_dip hr (by decide) (by rfl) (pa_cons (pv 1) (pa_cons (pv 2) pa_nil))) pa_nil)))) pa_nil))))), ?_⟩
    refine ⟨_, rfl, a, 3, ns, rfl, hS, hlen, by decide, by decide, fun H0 cp ms s1 ncp hcp hml => ?_⟩
    refine ⟨_, rfl, cp, _, rfl, .inl (SqL.of hcp), _, _, rfl, _, rfl, ?_, ?_, fun D nD => ?_⟩
    · rw [List.length_map]
      split <;> omega
    · rw [List.length_map]
      split <;> omega
    have nDc : cp ≠ D := ne_of_none hcp nD
    rw [List.length_map]
    refine lc_range (lo := 0) (fun j H' => H' cp = some (.lst (ms.map V.int)) ∧ H' D = some (.lst ((List.replicate j true).map V.bl))) ⟨same_upd nD _ _ hcp, upd_same⟩ ?_ ?_
    · rintro j H' hj ⟨h1, h2⟩
      rw [Int.zero_add]
      have hj4 : j < 4 := by
        split at hj <;> omega
      refine ⟨rfl, yesT ?_⟩
      refine ⟨_, rfl, _, rfl, cp, j, ms, rfl, SqL.of h1, by omega, fun p b np hB => ?_⟩
      have npc : cp ≠ p := ne_of_none h1 np
      have npD : D ≠ p := ne_of_none h2 np
      refine ⟨p, b, rfl, upd_same, hB, fun H2 bt => ?_⟩
      have g1 := bt _ _ npc (same_upd np _ _ h1)
      have g2 := bt _ _ npD (same_upd np _ _ h2)
      refine ⟨_, g2, by rw [List.length_map, List.length_replicate]; exact small1000 (by omega), by rw [upd_ne nDc]; exact g1, ?_⟩
      rw [upd_same, List.replicate_succ', List.map_append]
      rfl
    · rintro H' ⟨h1, h2⟩
      refine ⟨D, _, rfl, SqL.of h2, ?_⟩
      rw [allTrue]
      exact q _
end
section
variable {w : World} {K : PySem.W.Frag} {h : Heap} {mg : Str → Option Value}
theorem fun_dd {x : Str} {st : Stmt} {ps : List Str} {f : Addr} {oc : Value} {od an : Option Addr} {osl : Array (Option Value)} {kV doc pm cdv ct : Value} (X : K.In h) (G : h.Ns mainGlobals mg) (a : PySem.W.nsIn K mainGlobals x = some (some (.ref f)))
    (l : K.lookup f = some ⟨oc, od, .func (PySem.W.fnOf x x (defArgs st) (defBody st) (defScope st) .none kV doc pm an cdv ct), osl⟩) (c : PySem.W.codeIn K cdv x = true) (k : PySem.W.keepIn K (.ref f) = true)
    (hb : ∀ (kV doc pm : Value) (an : Option Addr) (cdv ct : Value) (us : List Value), us.length = ps.length → bindArgs (PySem.W.fnOf x x (defArgs st) (defBody st) (defScope st) .none kV doc pm an cdv ct) ⟨us, []⟩ = pure (ps.zip us)) : Dd K mg x st ps :=
  ⟨f, _, fun_mk (st := st) l c k, PySem.W.mg_of X G a, (fun_mk (st := st) l c k).binds hb⟩
end
section
variable {w : World} {K : PySem.W.Frag} {h : Heap} {mg : Str → Option Value}
theorem fun_oxd {x qual : Str} {st : Stmt} {ps : List Str} {B newId : String} {C f N : Addr} {oc : Value} {od an : Option Addr} {osl : Array (Option Value)} {kV doc pm cdv ct : Value} {nm q : Str} {bs bm : List Value} {sn : List Str} {sub : List Value} {ab : Bool} {col : Option Bool} {dd : Option Addr} {k0 k1 k2 k3 k5 : Option Value}
    (X : K.In h) (G : h.Ns mainGlobals mg) (a : PySem.W.nsIn K mainGlobals x = some (some (.ref C))) (lC : K.lookup C = some (excClassObj nm q C N bs bm true sn sub ab col dd k0 k1 k2 k3 k5 newId)) (Nw : PySem.Oxb.NewOk newId bm) (FB : PySem.Oxb.InitOk B bm) (M : PySem.Oxb.MroOk (.ref C :: bm))
    (sa : PySem.W.findIn K (.ref C) "__setattr__" = some (some (.builtin "object.__setattr__"))) (exC : PySem.W.subIn K (.ref C) (.type "BaseException") = some true) (tyC : PySem.W.typeIn K (.ref C) = some (.type "type")) (kC : PySem.W.keepIn K (.ref C) = true)
    (iC : PySem.W.findIn K (.ref C) "__init__" = some (some (.ref f))) (tI : PySem.W.typeIn K (.ref f) = some (.type "function"))
    (l : K.lookup f = some ⟨oc, od, .func (PySem.W.fnOf "__init__" qual (defArgs st) (defBody st) (defScope st) .none kV doc pm an cdv ct), osl⟩) (c : PySem.W.codeIn K cdv qual = true) (k : PySem.W.keepIn K (.ref f) = true)
    (hb : ∀ (kV doc pm : Value) (an : Option Addr) (cdv ct : Value) (us : List Value), us.length = ps.length → bindArgs (PySem.W.fnOf "__init__" qual (defArgs st) (defBody st) (defScope st) .none kV doc pm an cdv ct) ⟨us, []⟩ = pure (ps.zip us)) : OxD K mg C B x qual st ps where
  ex := ⟨f, _, fun_mk (st := st) l c k, (fun_mk (st := st) l c k).binds hb, iC, tI⟩
  ox := ⟨⟨nm, q, N, bs, bm, sn, sub, ab, col, dd, k0, k1, k2, k3, k5, newId, lC, Nw, FB, M⟩, sa, exC, tyC, kC⟩
  mg := PySem.W.mg_of X G a
theorem cls_some {D : Addr} (hd : PySem.W.hasDictIn K D = true) : (PySem.W.clsIn K D).isSome = true := by
  obtain ⟨cd, e1, _⟩ := PySem.W.any_some hd
  rw [e1]
  rfl
theorem kit_cls {t : Value} {D : Addr} {b : Bool} (hd : PySem.W.hasDictIn K D = true) (ht : PySem.W.typeIn K (.ref D) = some (.type "type")) (hs : PySem.W.subIn K t (.ref D) = some b) : PySem.W.kitCls K t (.ref D) = some b := by
  show (if ((PySem.W.clsIn K D).isSome && PySem.W.typeIn K (.ref D) == some (.type "type")) = true then PySem.W.subIn K t (.ref D) else none) = some b
  rw [cls_some hd, ht, hs]
  rfl
theorem kit_other {C D : Addr} {b : Bool} (n : (Value.ref C == Value.ref D) = false) (hd : PySem.W.hasDictIn K D = true) (ht : PySem.W.typeIn K (.ref D) = some (.type "type")) (hs : PySem.W.subIn K (.ref C) (.ref D) = some b) : PySem.W.kitOne K (.ref C) (.ref D) = some b := by
  unfold PySem.W.kitOne
  rw [n]
  exact kit_cls hd ht hs
theorem kit_base {C : Addr} {T : String} {b : Bool} (m : PySem.W.kitMeta T = true) (hs : PySem.W.subIn K (.ref C) (.type T) = some b) : PySem.W.kitOne K (.ref C) (.type T) = some b := by
  have n : (Value.ref C == Value.type T) = false := rfl
  unfold PySem.W.kitOne
  rw [n]
  show (if PySem.W.kitMeta T = true then PySem.W.subIn K (.ref C) (.type T) else none) = some b
  rw [if_pos m, hs]
theorem exm_own {t : Value} {D : Addr} {b : Bool} (hB : PySem.W.subIn K (.ref D) (.type "BaseException") = some true) (hd : PySem.W.hasDictIn K D = true) (ht : PySem.W.typeIn K (.ref D) = some (.type "type")) (hs : PySem.W.subIn K t (.ref D) = some b) : PySem.W.exmOne K t (.ref D) = some b := by
  unfold PySem.W.exmOne
  rw [hB]
  exact kit_cls hd ht hs
end
/-! ### from what the top has written: the class Grammar and its words -/
structure GIn (K : PySem.W.Frag) (mg : Str → Option Value) (C : Addr) : Prop where
  ex : ∃ (f : Addr) (fd : FuncData), FunD K "__init__" "Grammar.__init__" (defArgs s_GI) (defBody s_GI) (defScope s_GI) [] [("cap", .int 0)] f fd ∧ Mk K C f
  mg : mg "Grammar" = some (.ref C)
structure GMt (K : PySem.W.Frag) (C : Addr) (m qual : Str) (st : Stmt) (ps : List Str) : Prop where
  ex : ∃ (f : Addr) (fd : FuncData), L2.Fun K m qual st f fd ∧ Meth K C m f ∧ Binds K fd ps []
section
variable {w : World} {K : PySem.W.Frag} {h : Heap} {mg : Str → Option Value}
theorem fun_ddk {x kn : Str} {kv : V} {ku : Value} {st : Stmt} {f kd : Addr} {oc : Value} {od an : Option Addr} {osl : Array (Option Value)} {doc pm cdv ct : Value} (X : K.In h) (G : h.Ns mainGlobals mg) (a : PySem.W.nsIn K mainGlobals x = some (some (.ref f)))
    (l : K.lookup f = some ⟨oc, od, .func (PySem.W.fnOf x x (defArgs st) (defBody st) (defScope st) .none (.ref kd) doc pm an cdv ct), osl⟩) (c : PySem.W.codeIn K cdv x = true) (k : PySem.W.keepIn K (.ref f) = true)
    (d : PySem.W.nsIn K kd kn = some (some ku)) (r : RelV kv ku) : DdK K mg x st [(kn, kv)] :=
  ⟨f, _, ⟨⟨_, _, _, _, _, _, _, _, _, _, rfl, l, c, .inl ⟨rfl, rfl⟩, .inr ⟨kd, rfl, fun q hq => by
    rw [List.mem_singleton.mp hq]
    exact ⟨_, d, r⟩⟩⟩, k⟩, PySem.W.mg_of X G a⟩
def AllOp : List DictEntry → Prop
  | [] => True
  | e :: r => (∃ (o : Op) (t : Tok), e.key = .str o.w t) ∧ AllOp r
theorem parts_at {PD : Addr} {es : Array DictEntry} {n : Nat} (l : K.lookup PD = some ⟨.type "dict", none, .dict es n, #[]⟩) (kl : PySem.W.KeysLit w.params es.toList) (lo : (PD == sysModules) = false)
    (ns : ∀ o : Op, ∃ t, PySem.W.nsIn K PD o.w = some (some (.int (o.n : Nat) t))) : PartsAt K w PD where
  kd := ⟨es, n, l, kl, lo⟩
  ops := fun o => by
    obtain ⟨t, e⟩ := ns o
    exact ⟨⟨es, n, _, l, kl, e, ⟨_, rfl⟩⟩, _, e⟩
theorem ops_of {PD : Addr} {t1 t2 t3 t4 t5 t6 t7 t8 t9 t10 t11 : Tok} (h1 : PySem.W.nsIn K PD "copy" = some (some (.int 1 t1))) (h2 : PySem.W.nsIn K PD "plus" = some (some (.int 2 t2))) (h3 : PySem.W.nsIn K PD "less" = some (some (.int 2 t3))) (h4 : PySem.W.nsIn K PD "times" = some (some (.int 2 t4))) (h5 : PySem.W.nsIn K PD "over" = some (some (.int 2 t5))) (h6 : PySem.W.nsIn K PD "rest" = some (some (.int 2 t6))) (h7 : PySem.W.nsIn K PD "least" = some (some (.int 2 t7))) (h8 : PySem.W.nsIn K PD "most" = some (some (.int 2 t8))) (h9 : PySem.W.nsIn K PD "same" = some (some (.int 2 t9))) (h10 : PySem.W.nsIn K PD "under" = some (some (.int 2 t10))) (h11 : PySem.W.nsIn K PD "pick" = some (some (.int 3 t11))) : ∀ o : Op, ∃ t, PySem.W.nsIn K PD o.w = some (some (.int (o.n : Nat) t)) := fun o => by
  cases o with
  | copy => exact ⟨_, h1⟩
  | plus => exact ⟨_, h2⟩
  | less => exact ⟨_, h3⟩
  | times => exact ⟨_, h4⟩
  | over => exact ⟨_, h5⟩
  | rest => exact ⟨_, h6⟩
  | least => exact ⟨_, h7⟩
  | most => exact ⟨_, h8⟩
  | same => exact ⟨_, h9⟩
  | under => exact ⟨_, h10⟩
  | pick => exact ⟨_, h11⟩
theorem gcls_of {C : Addr} (c1 : PySem.W.plainGet K C Str.empty = true) (c2 : PySem.W.hasDictIn K C = true) (c3 : PySem.W.plainOver K C = true) (c4 : PySem.W.findIn K (.ref C) "__setattr__" = some (some (.builtin "object.__setattr__"))) (n1 : PySem.W.findIn K (.ref C) "top" = some none) (n2 : PySem.W.findIn K (.ref C) "sort_table" = some none) (n3 : PySem.W.findIn K (.ref C) "making_table" = some none) (n4 : PySem.W.findIn K (.ref C) "rule_table" = some none) (n5 : PySem.W.findIn K (.ref C) "kept_table" = some none) (n6 : PySem.W.findIn K (.ref C) "risen" = some none) : GCls K C := ⟨⟨c1, c2, c3, c4⟩, n1, n2, n3, n4, n5, n6⟩
theorem fun_gi {C f kd : Addr} {oc : Value} {od an : Option Addr} {osl : Array (Option Value)} {doc pm cdv ct : Value} {t : Tok} (X : K.In h) (G : h.Ns mainGlobals mg) (a : PySem.W.nsIn K mainGlobals "Grammar" = some (some (.ref C)))
    (m1 : PySem.W.makesIn K C = true) (m2 : PySem.W.findIn K (.ref C) "__init__" = some (some (.ref f))) (m3 : PySem.W.isFn K (.ref f) = true) (m4 : PySem.W.keepIn K (.ref C) = true)
    (l : K.lookup f = some ⟨oc, od, .func (PySem.W.fnOf "__init__" "Grammar.__init__" (defArgs s_GI) (defBody s_GI) (defScope s_GI) .none (.ref kd) doc pm an cdv ct), osl⟩) (c : PySem.W.codeIn K cdv "Grammar.__init__" = true) (k : PySem.W.keepIn K (.ref f) = true)
    (d : PySem.W.nsIn K kd "cap" = some (some (.int 0 t))) : GIn K mg C where
  ex := ⟨f, _, ⟨⟨_, _, _, _, _, _, _, _, _, _, rfl, l, c, .inl ⟨rfl, rfl⟩, .inr ⟨kd, rfl, fun q hq => by
    rw [List.mem_singleton.mp hq]
    exact ⟨_, d, ⟨_, rfl⟩⟩⟩⟩, k⟩, ⟨m1, m2, m3, m4⟩⟩
  mg := PySem.W.mg_of X G a
theorem fun_gm {C f : Addr} {m qual : Str} {st : Stmt} {ps : List Str} {oc : Value} {od an : Option Addr} {osl : Array (Option Value)} {kV doc pm cdv ct : Value} (m1 : PySem.W.findIn K (.ref C) m = some (some (.ref f))) (m2 : PySem.W.isFn K (.ref f) = true) (k : PySem.W.keepIn K (.ref f) = true)
    (l : K.lookup f = some ⟨oc, od, .func (PySem.W.fnOf m qual (defArgs st) (defBody st) (defScope st) .none kV doc pm an cdv ct), osl⟩) (c : PySem.W.codeIn K cdv qual = true)
    (hb : ∀ (kV doc pm : Value) (an : Option Addr) (cdv ct : Value) (us : List Value), us.length = ps.length → bindArgs (PySem.W.fnOf m qual (defArgs st) (defBody st) (defScope st) .none kV doc pm an cdv ct) ⟨us, []⟩ = pure (ps.zip us)) : GMt K C m qual st ps :=
  ⟨f, _, fun_mk (st := st) l c k, ⟨m1, m2, k⟩, (fun_mk (st := st) l c k).binds hb⟩
end
theorem all_mk {l : PySem.W.OpenLaw} {w : World} {K : PySem.W.Frag} {h : Heap} {mg : Str → Option Value} {fa C0 f4 : Addr} (X : K.In h) (G : h.Ns mainGlobals mg) (hfa : mg "law" = some (.ref fa))
    (N0 : OxD K mg C0 "KeyError" "NoName" "NoName.__init__" s_NoName N_NoName) (bV0 : PySem.W.findCls K (.type "KeyError") (.type "type") "__init__" = some (.val (.builtin "KeyError.__init__"))) (e3_0 : PySem.W.findIn K (.ref C0) "name" = some none)
    {t0 t1 t2 t3 t4 t5 t6 : Tok} (a10 : PySem.W.nsIn K mainGlobals "BOUND" = some (some (.int 1000000 t0))) (a11 : PySem.W.nsIn K mainGlobals "SIGNS" = some (some (.int 6 t1))) (a12 : PySem.W.nsIn K mainGlobals "LETTERS" = some (some (.str LETS t2))) (a13 : PySem.W.nsIn K mainGlobals "CAP" = some (some (.int 9 t3))) (a14 : PySem.W.nsIn K mainGlobals "SORTS" = some (some (.int 4 t4))) (a15 : PySem.W.nsIn K mainGlobals "MAKINGS" = some (some (.int 8 t5))) (a16 : PySem.W.nsIn K mainGlobals "EACH" = some (some (.int 2 t6)))
    {PD LA GC : Addr} (aP : PySem.W.nsIn K mainGlobals "PARTS" = some (some (.ref PD))) (PA : PartsAt K w PD)
    (aLT : PySem.W.nsIn K mainGlobals "LET" = some (some (.ref LA))) {dL : Option Addr} {itL : Array Value} {nL : Nat} {slL : Array (Option Value)} (lLT : K.lookup LA = some ⟨.type "tuple", dL, .seq itL nL, slL⟩) (vL : Vals [.str "copy", .str "plus", .str "least", .str "most"] itL.toList)
    (DKo : DdK K mg "op_let" s_op_let [("cap", .int 0)]) (GC1 : GCls K GC) (GI1 : GIn K mg GC) (ex0 : PySem.W.exmOne K (.ref C0) (.ref C0) = some true)
    (DK0 : DdK K mg "is_tree" s_is_tree [("sort", .non)])
    (GM0 : GMt K GC "making_of" "Grammar.making_of" s_GM N_GM)
    (z0 : PySem.W.nsIn K mainGlobals "len" = some none) (z1 : PySem.W.nsIn K mainGlobals "abs" = some none) (z2 : PySem.W.nsIn K mainGlobals "int" = some none) (z3 : PySem.W.nsIn K mainGlobals "list" = some none) (z4 : PySem.W.nsIn K mainGlobals "enumerate" = some none) (z5 : PySem.W.nsIn K mainGlobals "range" = some none) (z6 : PySem.W.nsIn K mainGlobals "isinstance" = some none) (z7 : PySem.W.nsIn K mainGlobals "tuple" = some none) (z8 : PySem.W.nsIn K mainGlobals "dict" = some none) (z9 : PySem.W.nsIn K mainGlobals "all" = some none) (z10 : PySem.W.nsIn K mainGlobals "sum" = some none) (z11 : PySem.W.nsIn K mainGlobals "min" = some none) (z12 : PySem.W.nsIn K mainGlobals "max" = some none) (z13 : PySem.W.nsIn K mainGlobals "sorted" = some none) (z14 : PySem.W.nsIn K mainGlobals "bool" = some none) (z15 : PySem.W.nsIn K mainGlobals "str" = some none) (z16 : PySem.W.nsIn K mainGlobals "zip" = some none) (z17 : PySem.W.nsIn K mainGlobals "repr" = some none) (z18 : PySem.W.nsIn K mainGlobals "set" = some none) (z19 : PySem.W.nsIn K mainGlobals "KeyError" = some none)
    (D0 : Dd K mg "own_copy" s_own_copy P_own_copy) (D1 : Dd K mg "is_number" s_is_number P_is_number) (D2 : Dd K mg "is_worth" s_is_worth P_is_worth) (D3 : Dd K mg "is_name" s_is_name P_is_name) (D4 : Dd K mg "is_tuple_of" s_is_tuple_of P_is_tuple_of) (D5 : Dd K mg "found_by" s_found_by P_found_by) (D6 : Dd K mg "is_op" s_is_op P_is_op) (D7 : Dd K mg "parts_of" s_parts_of P_parts_of) (D8 : Dd K mg "rows_of" s_rows_of P_rows_of) (D9 : Dd K mg "cap_in" s_cap_in P_cap_in) (D10 : Dd K mg "are_names" s_are_names P_are_names) (D11 : Dd K mg "sort_stands" s_sort_stands P_sort_stands) (D12 : Dd K mg "sorts_in" s_sorts_in P_sorts_in) (D13 : Dd K mg "making_stands" s_making_stands P_making_stands) (D14 : Dd K mg "makings_in" s_makings_in P_makings_in) (D15 : Dd K mg "worths_at" s_worths_at P_worths_at) (D16 : Dd K mg "is_at" s_is_at P_is_at) (D17 : Dd K mg "is_kept" s_is_kept P_is_kept) (D18 : Dd K mg "is_target" s_is_target P_is_target) (D19 : Dd K mg "is_operand" s_is_operand P_is_operand) (D20 : Dd K mg "kept_by" s_kept_by P_kept_by) (D21 : Dd K mg "rule_is_so" s_rule_is_so P_rule_is_so) (D22 : Dd K mg "rules_in" s_rules_in P_rules_in) (D23 : Dd K mg "_law_made" s__law_made P__law_made) (D24 : Dd K mg "form_of" s_form_of P_form_of) (D25 : Dd K mg "_law_take" s__law_take P__law_take) (D26 : Dd K mg "_law_dip" s__law_dip P__law_dip) (D27 : Dd K mg "_law_folded" s__law_folded P__law_folded) (D28 : Dd K mg "_law_one_of" s__law_one_of P__law_one_of) (D29 : Dd K mg "_law_strewn" s__law_strewn P__law_strewn) (D30 : Dd K mg "_law_named" s__law_named P__law_named) (D31 : Dd K mg "_law_number" s__law_number P__law_number) (D32 : Dd K mg "_law_sort_rows" s__law_sort_rows P__law_sort_rows) (D33 : Dd K mg "_law_rules_for" s__law_rules_for P__law_rules_for) (D34 : Dd K mg "_law_drawn" s__law_drawn P__law_drawn) (D35 : Dd K mg "_law_any" s__law_any P__law_any) (D36 : Dd K mg "_law_sizes" s__law_sizes P__law_sizes) (D37 : Dd K mg "_law_grown" s__law_grown P__law_grown) (D38 : Dd K mg "_law_tree_of" s__law_tree_of P__law_tree_of) (D39 : Dd K mg "_law_gone" s__law_gone P__law_gone) (D40 : Dd K mg "_law_same" s__law_same P__law_same) (D41 : Dd K mg "_law_put" s__law_put P__law_put) (D42 : Dd K mg "_law_is" s__law_is P__law_is) (D43 : Dd K mg "_law_odd" s__law_odd P__law_odd) (D44 : Dd K mg "_law_bent" s__law_bent P__law_bent) (D45 : Dd K mg "_law_great_right" s__law_great_right P__law_great_right) (D46 : Dd K mg "_law_right" s__law_right P__law_right)
    {od4 an4 : Option Addr} {sl4 : Array (Option Value)} {oc4 kV4 dc4 pm4 cd4 ct4 : Value}
    (a4 : PySem.W.nsIn K mainGlobals "law" = some (some (.ref f4))) (l4 : K.lookup f4 = some ⟨oc4, od4, .func (PySem.W.fnOf "law" "law" (defArgs s_law) (defBody s_law) (defScope s_law) .none kV4 dc4 pm4 an4 cd4 ct4), sl4⟩) (c4 : PySem.W.codeIn K cd4 "law" = true) (k4 : PySem.W.keepIn K (.ref f4) = true) :
    ∃ fd : FuncData, (∀ (s : Shared) (v : Value), BindsTo s fd ⟨[v], []⟩ [("_law_script", v)]) ∧ ∀ base : Heap, K.In base → base.Ns mainGlobals mg → FnG l.prog w K mg base 181 fa fd ["_law_script"] (spLaw K) := by
  have e := hfa.symm.trans (PySem.W.mg_of X G a4)
  cases e
  have F4 := fun_mk (st := s_law) l4 c4 k4
  have m0 := PySem.W.mg_none_of X G z0
  have m1 := PySem.W.mg_none_of X G z1
  have m2 := PySem.W.mg_none_of X G z2
  have m3 := PySem.W.mg_none_of X G z3
  have m4 := PySem.W.mg_none_of X G z4
  have m5 := PySem.W.mg_none_of X G z5
  have m6 := PySem.W.mg_none_of X G z6
  have m7 := PySem.W.mg_none_of X G z7
  have m8 := PySem.W.mg_none_of X G z8
  have m9 := PySem.W.mg_none_of X G z9
  have m10 := PySem.W.mg_none_of X G z10
  have m11 := PySem.W.mg_none_of X G z11
  have m12 := PySem.W.mg_none_of X G z12
  have m13 := PySem.W.mg_none_of X G z13
  have m14 := PySem.W.mg_none_of X G z14
  have m15 := PySem.W.mg_none_of X G z15
  have m16 := PySem.W.mg_none_of X G z16
  have m17 := PySem.W.mg_none_of X G z17
  have m18 := PySem.W.mg_none_of X G z18
  have m19 := PySem.W.mg_none_of X G z19
  have TB : Bt mg := ⟨m0, m1, m2, m3, m4, m5⟩
  have TO : Ot mg := ⟨m6, m3, m7⟩
  have TSo : So mg := ⟨m5, m7⟩
  have TRu : Ru mg := ⟨m5, m3, m0, m2, m7⟩
  have TDw : Dw mg := ⟨m5, m0, m8, m7, m4⟩
  have TZs : Zs mg := ⟨m9, m10, m11⟩
  have TGw : Gw mg := ⟨m9, m10, m12, m0, m4, m7⟩
  have TTo : To mg := ⟨m13⟩
  have TS : Sa mg := ⟨m6, m3, m7, m14, m15, m2, m0, m16, m9, m5⟩
  have TG5 : Go5 mg := ⟨m4⟩
  have TI : Ti mg := ⟨m6, m2, m14, m15, m7, m0, m9, m16⟩
  have TBe : Be mg := ⟨m13, m3, m0⟩
  have TGr : Gr mg := ⟨m5⟩
  have TR : Ri4 mg := ⟨m5, m9, m12, m0, m13, m17⟩
  have TGb : Gb mg := ⟨m6, m2, m14, m15, m7, m3, m0, m9, m18, m13, m4⟩
  have TN : Nu mg := ⟨m6, m2, m14, m7, m0⟩
  have bI0 : BInit K "KeyError" := ⟨by decide +kernel, rfl, by decide +kernel, bV0, rfl, by decide +kernel, by decide +kernel⟩
  refine ⟨PySem.W.fnOf "law" "law" (defArgs s_law) (defBody s_law) (defScope s_law) .none kV4 dc4 pm4 an4 cd4 ct4, fun s v => .of_eq rfl, fun base _ _ => ?_⟩
  have ct := ok_take (P := l.prog) (w := w) (base := base) D25
  have co := ok_one_of TB ct D28
  have cu := ok_number ct D31
  have cn := ok_named TB ct D30
  have cs := ok_strewn TB ct D29
  have cr := ok_sort_rows TSo ct cn cs D32
  have cf := ok_rules_for TRu ct cn cs co cu D33
  have cd := ok_drawn TDw ct cn (ok_strewnT TB ct D29) co cr cf D34
  have ca := ok_any ct cd D35
  have cz := ok_sizes (P := l.prog) (w := w) (base := base) TZs D36
  have cg := ok_growns TGw ct co cu D37 28
  have ce := ok_tree_of TTo ct co cz cg D38
  
  have hL : ∀ H, SqT K H LA [.str "copy", .str "plus", .str "least", .str "most"] := fun H => .inr ⟨_, itL, nL, lLT, rfl, rfl, by
    have z : itL.toList.length = 4 := by first | exact vL.length | exact vL.length.symm
    have z2 : itL.size = 4 := by
      rw [← Array.length_toList]
      exact z
    rw [z2]
    decide, vL⟩
  have TG : Gg mg PD LA := ⟨⟨_, PySem.W.mg_of X G a10, ⟨_, rfl⟩⟩, ⟨_, PySem.W.mg_of X G a11, ⟨_, rfl⟩⟩, ⟨_, PySem.W.mg_of X G a12, ⟨_, rfl⟩⟩, ⟨_, PySem.W.mg_of X G a13, ⟨_, rfl⟩⟩, ⟨_, PySem.W.mg_of X G a14, ⟨_, rfl⟩⟩, ⟨_, PySem.W.mg_of X G a15, ⟨_, rfl⟩⟩, ⟨_, PySem.W.mg_of X G a16, ⟨_, rfl⟩⟩, PySem.W.mg_of X G aP, PySem.W.mg_of X G aLT⟩
  have gNu := ok_is_number (P := l.prog) (w := w) (base := base) TN D1
  have gWo := ok_is_worth TGb TG gNu D2
  have gNa := ok_is_nameT (P := l.prog) (w := w) (base := base) TGb TG D3
  have gTu := ok_is_tuple_of (P := l.prog) (w := w) (base := base) TGb D4
  have gOp := ok_is_op (P := l.prog) (w := w) (base := base) TGb TG PA D6
  have gPa := ok_parts_of TG PA gOp D7
  have gLe := ok_op_letT TG hL gOp DKo
  have gRo := ok_rows_of (P := l.prog) (w := w) (base := base) TGb D8
  have gCa := ok_cap_in TGb TG gNu D9
  have gAn := ok_are_names TGb TG gNa D10
  have gSs := ok_sort_stands TGb TG gNa gTu gAn D11
  have gSi := ok_sorts_in TGb gRo gSs D12
  have gMs := ok_making_stands TGb TG gNa gTu gAn D13
  have gMi := ok_makings_in TGb gRo gMs D14
  have gWa := ok_worths_at TGb gNu D15
  have gIa := ok_is_at gTu D16
  have gIk := ok_is_kept gTu gNa D17
  have gIt := ok_is_target gIa gIk gWa D18
  have gIo := ok_is_operand gIa gIk gWa gTu gWo D19
  have gKb := ok_kept_by (P := l.prog) (w := w) (base := base) TGb D20
  have gRs := ok_rule_is_so TGb gTu gNa gIt gOp gLe gPa gIo D21
  have gRi := ok_rules_in TGb TG gRo gRs gKb D22
  obtain ⟨fG, fdG, FG, MG⟩ := GI1.ex
  have okG := ok_GI TGb GC1 gCa gSi gMi gRi gKb FG
  have cmade := ok_made TGb (gmk_of FG okG MG GI1.mg) D23
  have cw := ok_ownD (P := l.prog) (w := w) (base := base) TO D0 114
  have cfound := ok_found_by (sn := 114) TGb N0 (fun f fd F => ok_NoName cw F N0.ox bI0 m19 e3_0) D5
  
  obtain ⟨fM, fdM, FM, mM, bM⟩ := GM0.ex
  have cform := ok_form_of GC1 ⟨N0.mg, ex0⟩ ⟨fM, fdM, ok_making_of (sn := 114) GC1 cfound FM, mM, bM⟩ D24
  obtain ⟨fT, fdT, FT, gT⟩ := DK0.ex
  have okT := run_is_tree (sn := 114) TI gTu gWo cform FT gT 57
  obtain ⟨cT0, cT1⟩ := is_tree0_of FT gT okT
  have cis := ok_law_is (P := l.prog) (w := w) (K := K) (base := base) TI D42 57
  have codd := ok_odd ct D43
  have cgo := ok_gone (P := l.prog) (w := w) (K := K) (base := base) TG5 D39 62
  have clp := ok_lputD (P := l.prog) (w := w) (K := K) (base := base) D41 62
  have cbe := ok_bent TBe ct co cgo codd clp D44
  have csa := ok_same (P := l.prog) (w := w) (base := base) TS D40 124
  have cgr := ok_great TGr (gmk0_of FG okG MG GI1.mg) cT0 cT1 csa D45
  exact ok_law4 TR (ok_folded TB D27) (ok_dip TB D26) (ok_right4 TR co ca cmade ce codd cbe cis csa cgr cT0 cT1 D46) F4
end Thr
open PySem PySem.W PyProof.Rows
set_option maxRecDepth 100000 in
set_option maxHeartbeats 0 in
theorem PySem.Challenge.cw_threereckons_k14_what_trees_are_holds : PySem.Challenge.rw_threereckons_k14_what_trees_are.Holds := by
  w_on; o_law; k_head; (case hw => w_witness2)
  k_fill
  refine Thr.walk_ofG (l := PySem.Challenge.rw_threereckons_k14_what_trees_are) (n := 63) (k := 181) (x := "_law_script") (sp := fun w => Thr.spLaw _) rfl (by decide) rfl ⟨rfl, by decide, by decide⟩ (fun w h Y => PySem.W.kIn_of Y) ?F (fun _ _ a ns hl _ hS => ⟨a, ns, rfl, hS, hl, fun _ => rfl⟩)
  case F =>
    intro w mg fa h KX G hmg
    refine' Thr.all_mk KX G hmg
      (Thr.fun_oxd (newId := "LookupError.__new__") (bm := [.type "KeyError", .type "LookupError", .type "Exception", .type "BaseException", .type "object"]) KX G ?o0_1 ?o0_2 Thr.new_KE Thr.init_KE ?oM0 ?o0_3 ?o0_4 ?o0_5 ?o0_6 ?o0_7 ?o0_8 ?o0_9 ?o0_10 ?o0_11 ?o0_12) ?bV0 ?e3_0
      ?kn0 ?kn1 ?kn2 ?kn3 ?kn4 ?kn5 ?kn6
      ?aP (Thr.parts_at ?lP ?kl ?lo (Thr.ops_of ?p1 ?p2 ?p3 ?p4 ?p5 ?p6 ?p7 ?p8 ?p9 ?p10 ?p11)) ?aLT ?lLT ?vL
      (Thr.fun_ddk KX G ?ko1 ?ko2 ?ko3 ?ko4 ?ko5 ?ko6) (Thr.gcls_of ?gc1 ?gc2 ?gc3 ?gc4 ?gn1 ?gn2 ?gn3 ?gn4 ?gn5 ?gn6) (Thr.fun_gi KX G ?gi1 ?gi2 ?gi3 ?gi4 ?gi5 ?gi6 ?gi7 ?gi8 ?gi9) (Thr.exm_own ?ex1 ?ex2 ?ex3 ?ex4)
      (Thr.fun_ddk KX G ?kq0_1 ?kq0_2 ?kq0_3 ?kq0_4 ?kq0_5 ?kq0_6)
      (Thr.fun_gm ?mm0_1 ?mm0_2 ?mm0_3 ?mm0_4 ?mm0_5 ?mm0_6)
      ?z0 ?z1 ?z2 ?z3 ?z4 ?z5 ?z6 ?z7 ?z8 ?z9 ?z10 ?z11 ?z12 ?z13 ?z14 ?z15 ?z16 ?z17 ?z18 ?z19
      (Thr.fun_dd KX G ?x0 ?w0 ?u0 ?t0 ?s0)
      (Thr.fun_dd KX G ?x1 ?w1 ?u1 ?t1 ?s1)
      (Thr.fun_dd KX G ?x2 ?w2 ?u2 ?t2 ?s2)
      (Thr.fun_dd KX G ?x3 ?w3 ?u3 ?t3 ?s3)
      (Thr.fun_dd KX G ?x4 ?w4 ?u4 ?t4 ?s4)
      (Thr.fun_dd KX G ?x5 ?w5 ?u5 ?t5 ?s5)
      (Thr.fun_dd KX G ?x6 ?w6 ?u6 ?t6 ?s6)
      (Thr.fun_dd KX G ?x7 ?w7 ?u7 ?t7 ?s7)
      (Thr.fun_dd KX G ?x8 ?w8 ?u8 ?t8 ?s8)
      (Thr.fun_dd KX G ?x9 ?w9 ?u9 ?t9 ?s9)
      (Thr.fun_dd KX G ?x10 ?w10 ?u10 ?t10 ?s10)
      (Thr.fun_dd KX G ?x11 ?w11 ?u11 ?t11 ?s11)
      (Thr.fun_dd KX G ?x12 ?w12 ?u12 ?t12 ?s12)
      (Thr.fun_dd KX G ?x13 ?w13 ?u13 ?t13 ?s13)
      (Thr.fun_dd KX G ?x14 ?w14 ?u14 ?t14 ?s14)
      (Thr.fun_dd KX G ?x15 ?w15 ?u15 ?t15 ?s15)
      (Thr.fun_dd KX G ?x16 ?w16 ?u16 ?t16 ?s16)
      (Thr.fun_dd KX G ?x17 ?w17 ?u17 ?t17 ?s17)
      (Thr.fun_dd KX G ?x18 ?w18 ?u18 ?t18 ?s18)
      (Thr.fun_dd KX G ?x19 ?w19 ?u19 ?t19 ?s19)
      (Thr.fun_dd KX G ?x20 ?w20 ?u20 ?t20 ?s20)
      (Thr.fun_dd KX G ?x21 ?w21 ?u21 ?t21 ?s21)
      (Thr.fun_dd KX G ?x22 ?w22 ?u22 ?t22 ?s22)
      (Thr.fun_dd KX G ?x23 ?w23 ?u23 ?t23 ?s23)
      (Thr.fun_dd KX G ?x24 ?w24 ?u24 ?t24 ?s24)
      (Thr.fun_dd KX G ?x25 ?w25 ?u25 ?t25 ?s25)
      (Thr.fun_dd KX G ?x26 ?w26 ?u26 ?t26 ?s26)
      (Thr.fun_dd KX G ?x27 ?w27 ?u27 ?t27 ?s27)
      (Thr.fun_dd KX G ?x28 ?w28 ?u28 ?t28 ?s28)
      (Thr.fun_dd KX G ?x29 ?w29 ?u29 ?t29 ?s29)
      (Thr.fun_dd KX G ?x30 ?w30 ?u30 ?t30 ?s30)
      (Thr.fun_dd KX G ?x31 ?w31 ?u31 ?t31 ?s31)
      (Thr.fun_dd KX G ?x32 ?w32 ?u32 ?t32 ?s32)
      (Thr.fun_dd KX G ?x33 ?w33 ?u33 ?t33 ?s33)
      (Thr.fun_dd KX G ?x34 ?w34 ?u34 ?t34 ?s34)
      (Thr.fun_dd KX G ?x35 ?w35 ?u35 ?t35 ?s35)
      (Thr.fun_dd KX G ?x36 ?w36 ?u36 ?t36 ?s36)
      (Thr.fun_dd KX G ?x37 ?w37 ?u37 ?t37 ?s37)
      (Thr.fun_dd KX G ?x38 ?w38 ?u38 ?t38 ?s38)
      (Thr.fun_dd KX G ?x39 ?w39 ?u39 ?t39 ?s39)
      (Thr.fun_dd KX G ?x40 ?w40 ?u40 ?t40 ?s40)
      (Thr.fun_dd KX G ?x41 ?w41 ?u41 ?t41 ?s41)
      (Thr.fun_dd KX G ?x42 ?w42 ?u42 ?t42 ?s42)
      (Thr.fun_dd KX G ?x43 ?w43 ?u43 ?t43 ?s43)
      (Thr.fun_dd KX G ?x44 ?w44 ?u44 ?t44 ?s44)
      (Thr.fun_dd KX G ?x45 ?w45 ?u45 ?t45 ?s45)
      (Thr.fun_dd KX G ?x46 ?w46 ?u46 ?t46 ?s46)
      ?a4 ?l4 ?c4 ?k4
    (case o0_1 => k_is)
    (case o0_2 => k_is)
    (case o0_3 => k_is)
    (case o0_4 => k_is)
    (case o0_5 => k_is)
    (case o0_6 => k_is)
    (case o0_7 => k_is)
    (case o0_8 => k_is)
    (case o0_9 => k_is)
    (case o0_10 => k_is)
    (case o0_11 => k_is)
    (case oM0 => exact Thr.mro_KE _)
    (case o0_12 => exact fun _ _ _ _ _ _ us hl => match us, hl with | [_, _], _ => rfl)
    (case bV0 => k_is)
    (case e3_0 => k_is)
    (case kn0 => k_is)
    (case kn1 => k_is)
    (case kn2 => k_is)
    (case kn3 => k_is)
    (case kn4 => k_is)
    (case kn5 => k_is)
    (case kn6 => k_is)
    (case aP => k_is)
    (case lP => k_is)
    (case kl => (repeat (first | exact trivial | refine ⟨⟨_, _, rfl, rfl⟩, ?_⟩)))
    (case lo => rfl)
    (case p1 => k_is)
    (case p2 => k_is)
    (case p3 => k_is)
    (case p4 => k_is)
    (case p5 => k_is)
    (case p6 => k_is)
    (case p7 => k_is)
    (case p8 => k_is)
    (case p9 => k_is)
    (case p10 => k_is)
    (case p11 => k_is)
    (case aLT => k_is)
    (case lLT => k_is)
    (case vL => exact .cons ⟨_, rfl⟩ (.cons ⟨_, rfl⟩ (.cons ⟨_, rfl⟩ (.cons ⟨_, rfl⟩ .nil))))
    (case ko1 => k_is)
    (case ko2 => k_is)
    (case ko3 => k_is)
    (case ko4 => k_is)
    (case ko5 => k_is)
    (case ko6 => exact ⟨_, rfl⟩)
    (case gi1 => k_is)
    (case gi2 => k_is)
    (case gi3 => k_is)
    (case gi4 => k_is)
    (case gi5 => k_is)
    (case gi6 => k_is)
    (case gi7 => k_is)
    (case gi8 => k_is)
    (case gi9 => k_is)
    (case gc1 => k_is)
    (case gc2 => k_is)
    (case gc3 => k_is)
    (case gc4 => k_is)
    (case gn1 => k_is)
    (case gn2 => k_is)
    (case gn3 => k_is)
    (case gn4 => k_is)
    (case gn5 => k_is)
    (case gn6 => k_is)
    (case ex1 => k_is)
    (case ex2 => k_is)
    (case ex3 => k_is)
    (case ex4 => k_is)
    (case kq0_1 => k_is)
    (case kq0_2 => k_is)
    (case kq0_3 => k_is)
    (case kq0_4 => k_is)
    (case kq0_5 => k_is)
    (case kq0_6 => exact rfl)
    (case mm0_1 => k_is)
    (case mm0_2 => k_is)
    (case mm0_3 => k_is)
    (case mm0_4 => k_is)
    (case mm0_5 => k_is)
    (case mm0_6 => exact fun _ _ _ _ _ _ us hl => match us, hl with | [_, _], _ => rfl)
    (case z0 => k_is)
    (case z1 => k_is)
    (case z2 => k_is)
    (case z3 => k_is)
    (case z4 => k_is)
    (case z5 => k_is)
    (case z6 => k_is)
    (case z7 => k_is)
    (case z8 => k_is)
    (case z9 => k_is)
    (case z10 => k_is)
    (case z11 => k_is)
    (case z12 => k_is)
    (case z13 => k_is)
    (case z14 => k_is)
    (case z15 => k_is)
    (case z16 => k_is)
    (case z17 => k_is)
    (case z18 => k_is)
    (case z19 => k_is)
    (case x0 => k_is)
    (case w0 => k_is)
    (case u0 => k_is)
    (case t0 => k_is)
    (case s0 => exact fun _ _ _ _ _ _ us hl => match us, hl with | [_], _ => rfl)
    (case x1 => k_is)
    (case w1 => k_is)
    (case u1 => k_is)
    (case t1 => k_is)
    (case s1 => exact fun _ _ _ _ _ _ us hl => match us, hl with | [_], _ => rfl)
    (case x2 => k_is)
    (case w2 => k_is)
    (case u2 => k_is)
    (case t2 => k_is)
    (case s2 => exact fun _ _ _ _ _ _ us hl => match us, hl with | [_], _ => rfl)
    (case x3 => k_is)
    (case w3 => k_is)
    (case u3 => k_is)
    (case t3 => k_is)
    (case s3 => exact fun _ _ _ _ _ _ us hl => match us, hl with | [_], _ => rfl)
    (case x4 => k_is)
    (case w4 => k_is)
    (case u4 => k_is)
    (case t4 => k_is)
    (case s4 => exact fun _ _ _ _ _ _ us hl => match us, hl with | [_, _], _ => rfl)
    (case x5 => k_is)
    (case w5 => k_is)
    (case u5 => k_is)
    (case t5 => k_is)
    (case s5 => exact fun _ _ _ _ _ _ us hl => match us, hl with | [_, _], _ => rfl)
    (case x6 => k_is)
    (case w6 => k_is)
    (case u6 => k_is)
    (case t6 => k_is)
    (case s6 => exact fun _ _ _ _ _ _ us hl => match us, hl with | [_], _ => rfl)
    (case x7 => k_is)
    (case w7 => k_is)
    (case u7 => k_is)
    (case t7 => k_is)
    (case s7 => exact fun _ _ _ _ _ _ us hl => match us, hl with | [_], _ => rfl)
    (case x8 => k_is)
    (case w8 => k_is)
    (case u8 => k_is)
    (case t8 => k_is)
    (case s8 => exact fun _ _ _ _ _ _ us hl => match us, hl with | [_, _], _ => rfl)
    (case x9 => k_is)
    (case w9 => k_is)
    (case u9 => k_is)
    (case t9 => k_is)
    (case s9 => exact fun _ _ _ _ _ _ us hl => match us, hl with | [_], _ => rfl)
    (case x10 => k_is)
    (case w10 => k_is)
    (case u10 => k_is)
    (case t10 => k_is)
    (case s10 => exact fun _ _ _ _ _ _ us hl => match us, hl with | [_], _ => rfl)
    (case x11 => k_is)
    (case w11 => k_is)
    (case u11 => k_is)
    (case t11 => k_is)
    (case s11 => exact fun _ _ _ _ _ _ us hl => match us, hl with | [_, _], _ => rfl)
    (case x12 => k_is)
    (case w12 => k_is)
    (case u12 => k_is)
    (case t12 => k_is)
    (case s12 => exact fun _ _ _ _ _ _ us hl => match us, hl with | [_], _ => rfl)
    (case x13 => k_is)
    (case w13 => k_is)
    (case u13 => k_is)
    (case t13 => k_is)
    (case s13 => exact fun _ _ _ _ _ _ us hl => match us, hl with | [_, _, _], _ => rfl)
    (case x14 => k_is)
    (case w14 => k_is)
    (case u14 => k_is)
    (case t14 => k_is)
    (case s14 => exact fun _ _ _ _ _ _ us hl => match us, hl with | [_, _], _ => rfl)
    (case x15 => k_is)
    (case w15 => k_is)
    (case u15 => k_is)
    (case t15 => k_is)
    (case s15 => exact fun _ _ _ _ _ _ us hl => match us, hl with | [_, _, _], _ => rfl)
    (case x16 => k_is)
    (case w16 => k_is)
    (case u16 => k_is)
    (case t16 => k_is)
    (case s16 => exact fun _ _ _ _ _ _ us hl => match us, hl with | [_], _ => rfl)
    (case x17 => k_is)
    (case w17 => k_is)
    (case u17 => k_is)
    (case t17 => k_is)
    (case s17 => exact fun _ _ _ _ _ _ us hl => match us, hl with | [_, _, _], _ => rfl)
    (case x18 => k_is)
    (case w18 => k_is)
    (case u18 => k_is)
    (case t18 => k_is)
    (case s18 => exact fun _ _ _ _ _ _ us hl => match us, hl with | [_, _, _], _ => rfl)
    (case x19 => k_is)
    (case w19 => k_is)
    (case u19 => k_is)
    (case t19 => k_is)
    (case s19 => exact fun _ _ _ _ _ _ us hl => match us, hl with | [_, _, _], _ => rfl)
    (case x20 => k_is)
    (case w20 => k_is)
    (case u20 => k_is)
    (case t20 => k_is)
    (case s20 => exact fun _ _ _ _ _ _ us hl => match us, hl with | [_, _], _ => rfl)
    (case x21 => k_is)
    (case w21 => k_is)
    (case u21 => k_is)
    (case t21 => k_is)
    (case s21 => exact fun _ _ _ _ _ _ us hl => match us, hl with | [_, _, _, _], _ => rfl)
    (case x22 => k_is)
    (case w22 => k_is)
    (case u22 => k_is)
    (case t22 => k_is)
    (case s22 => exact fun _ _ _ _ _ _ us hl => match us, hl with | [_, _, _, _], _ => rfl)
    (case x23 => k_is)
    (case w23 => k_is)
    (case u23 => k_is)
    (case t23 => k_is)
    (case s23 => exact fun _ _ _ _ _ _ us hl => match us, hl with | [_], _ => rfl)
    (case x24 => k_is)
    (case w24 => k_is)
    (case u24 => k_is)
    (case t24 => k_is)
    (case s24 => exact fun _ _ _ _ _ _ us hl => match us, hl with | [_, _], _ => rfl)
    (case x25 => k_is)
    (case w25 => k_is)
    (case u25 => k_is)
    (case t25 => k_is)
    (case s25 => exact fun _ _ _ _ _ _ us hl => match us, hl with | [_, _], _ => rfl)
    (case x26 => k_is)
    (case w26 => k_is)
    (case u26 => k_is)
    (case t26 => k_is)
    (case s26 => exact fun _ _ _ _ _ _ us hl => match us, hl with | [_, _], _ => rfl)
    (case x27 => k_is)
    (case w27 => k_is)
    (case u27 => k_is)
    (case t27 => k_is)
    (case s27 => exact fun _ _ _ _ _ _ us hl => match us, hl with | [_, _], _ => rfl)
    (case x28 => k_is)
    (case w28 => k_is)
    (case u28 => k_is)
    (case t28 => k_is)
    (case s28 => exact fun _ _ _ _ _ _ us hl => match us, hl with | [_, _], _ => rfl)
    (case x29 => k_is)
    (case w29 => k_is)
    (case u29 => k_is)
    (case t29 => k_is)
    (case s29 => exact fun _ _ _ _ _ _ us hl => match us, hl with | [_, _], _ => rfl)
    (case x30 => k_is)
    (case w30 => k_is)
    (case u30 => k_is)
    (case t30 => k_is)
    (case s30 => exact fun _ _ _ _ _ _ us hl => match us, hl with | [_, _], _ => rfl)
    (case x31 => k_is)
    (case w31 => k_is)
    (case u31 => k_is)
    (case t31 => k_is)
    (case s31 => exact fun _ _ _ _ _ _ us hl => match us, hl with | [_], _ => rfl)
    (case x32 => k_is)
    (case w32 => k_is)
    (case u32 => k_is)
    (case t32 => k_is)
    (case s32 => exact fun _ _ _ _ _ _ us hl => match us, hl with | [_, _], _ => rfl)
    (case x33 => k_is)
    (case w33 => k_is)
    (case u33 => k_is)
    (case t33 => k_is)
    (case s33 => exact fun _ _ _ _ _ _ us hl => match us, hl with | [_, _, _, _, _], _ => rfl)
    (case x34 => k_is)
    (case w34 => k_is)
    (case u34 => k_is)
    (case t34 => k_is)
    (case s34 => exact fun _ _ _ _ _ _ us hl => match us, hl with | [_, _, _], _ => rfl)
    (case x35 => k_is)
    (case w35 => k_is)
    (case u35 => k_is)
    (case t35 => k_is)
    (case s35 => exact fun _ _ _ _ _ _ us hl => match us, hl with | [_], _ => rfl)
    (case x36 => k_is)
    (case w36 => k_is)
    (case u36 => k_is)
    (case t36 => k_is)
    (case s36 => exact fun _ _ _ _ _ _ us hl => match us, hl with | [_], _ => rfl)
    (case x37 => k_is)
    (case w37 => k_is)
    (case u37 => k_is)
    (case t37 => k_is)
    (case s37 => exact fun _ _ _ _ _ _ us hl => match us, hl with | [_, _, _, _, _, _], _ => rfl)
    (case x38 => k_is)
    (case w38 => k_is)
    (case u38 => k_is)
    (case t38 => k_is)
    (case s38 => exact fun _ _ _ _ _ _ us hl => match us, hl with | [_, _, _], _ => rfl)
    (case x39 => k_is)
    (case w39 => k_is)
    (case u39 => k_is)
    (case t39 => k_is)
    (case s39 => exact fun _ _ _ _ _ _ us hl => match us, hl with | [_, _], _ => rfl)
    (case x40 => k_is)
    (case w40 => k_is)
    (case u40 => k_is)
    (case t40 => k_is)
    (case s40 => exact fun _ _ _ _ _ _ us hl => match us, hl with | [_, _], _ => rfl)
    (case x41 => k_is)
    (case w41 => k_is)
    (case u41 => k_is)
    (case t41 => k_is)
    (case s41 => exact fun _ _ _ _ _ _ us hl => match us, hl with | [_, _, _], _ => rfl)
    (case x42 => k_is)
    (case w42 => k_is)
    (case u42 => k_is)
    (case t42 => k_is)
    (case s42 => exact fun _ _ _ _ _ _ us hl => match us, hl with | [_, _, _], _ => rfl)
    (case x43 => k_is)
    (case w43 => k_is)
    (case u43 => k_is)
    (case t43 => k_is)
    (case s43 => exact fun _ _ _ _ _ _ us hl => match us, hl with | [_], _ => rfl)
    (case x44 => k_is)
    (case w44 => k_is)
    (case u44 => k_is)
    (case t44 => k_is)
    (case s44 => exact fun _ _ _ _ _ _ us hl => match us, hl with | [_, _, _], _ => rfl)
    (case x45 => k_is)
    (case w45 => k_is)
    (case u45 => k_is)
    (case t45 => k_is)
    (case s45 => exact fun _ _ _ _ _ _ us hl => match us, hl with | [], _ => rfl)
    (case x46 => k_is)
    (case w46 => k_is)
    (case u46 => k_is)
    (case t46 => k_is)
    (case s46 => exact fun _ _ _ _ _ _ us hl => match us, hl with | [_], _ => rfl)
    (case a4 => k_is)
    (case l4 => k_is)
    (case c4 => k_is)
    (case k4 => k_is)
