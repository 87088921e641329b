import PyProof.Rows.All
import Wide.All
import OpenK.AllK
import Wide.FinOn
import HandS.ForMost
import HandS.Walk
import HandS.Codes
import HandS.IsInst
import HandS.Defaults
import HandS.Star
import HandS.Flow
import HandS.Style
import HandS.CallLocal
import HandS.More
import HandS.ForExc
import HandS.ExcInit
import HandS.ExcIs
import HandS.ExcField
import KE.KExcIs
import KE.KExcInit
import HandS.Zip
import HandS.DeepEq
import PyProof.Rows.NestShow
import HandS.TupAny
import HandS.RevRange
import HandS.Text
import PyProof.StrLawsRepr
import HandS.StrMore
import KE.IntTextText
import KE.KDictKeyed
import KE.GoesMore
import PyProof.EnumMake
import PyProof.Draws
import HandS.DictComp
import HandS.Conv
import HandS.Deep
import HandS.Dict
import HandS.FStr
import PySem.Challenge.RW_threereckons_k15_nodes_and_parts
set_option Elab.async false
set_option linter.all false
set_option maxRecDepth 100000
set_option maxHeartbeats 4000000
namespace Thr
open PySem PySem.Spec PyProof.Rows L2
/-! ### heaps -/
theorem same_upd {H : Hp} {p : Addr} {o : HO} (h : H p = none) : Same H (upd H p o) := fun b x e => by
  rw [upd_ne (ne_of_none e h)]
  exact e
/-- all but what stands at a -/
def But (a : Addr) (H H' : Hp) : Prop := ∀ b o, b ≠ a → H b = some o → H' b = some o
theorem But.refl (a : Addr) (H : Hp) : But a H H := fun _ _ _ h => h
theorem But.trans {a : Addr} {H H1 H2 : Hp} (x : But a H H1) (y : But a H1 H2) : But a H H2 := fun b o n h => y b o n (x b o n h)
theorem But.of {a : Addr} {H H' : Hp} (s : Same H H') : But a H H' := fun b o _ h => s b o h
theorem But.upd {a : Addr} {H H' : Hp} {o : HO} (x : But a H H') : But a H (upd H' a o) := fun b u n h => by
  rw [upd_ne n]
  exact x b u n h
theorem But.new {a p : Addr} {H H' : Hp} {o : HO} (x : But a H H') (h : H' p = none) : But a H (L2.upd H' p o) := fun b u n e => by
  have e' := x b u n e
  rw [upd_ne (ne_of_none e' h)]
  exact e'
theorem But.seq {K : PySem.W.Frag} {H H' : Hp} {a b : Addr} {xs : List V} (e : But a H H') (n : b ≠ a) (h : SqL K H b xs) : SqL K H' b xs := by
  rcases h with (h | ⟨o, h⟩) | h
  · exact .inl (.inl (e _ _ n h))
  · exact .inl (.inr ⟨o, e _ _ n h⟩)
  · exact .inr h
/-! ### a def of the top, under its name -/
structure Dd (K : PySem.W.Frag) (mg : Str → Option Value) (x : Str) (st : Stmt) (ps : List Str) : Prop where
  ex : ∃ (f : Addr) (fd : FuncData), L2.Fun K x x st f fd ∧ mg x = some (.ref f) ∧ Binds K fd ps []
section
variable {P : Program} {w : World} {K : PySem.W.Frag} {mg : Str → Option Value} {base : Heap}
theorem Dd.cal {x : Str} {st : Stmt} {N ps : List Str} {k : Nat} {sp : Sp} (D : Dd K mg x st ps) (S : FnScope N ps (defScope st)) (len : ∀ vs H Q E, sp vs H Q E → vs.length = ps.length)
    (hbody : ∀ (f : Addr) (cdv : Value) (A : Around) (outer : List Env) (s : Shared) (H : Hp) (vs : List V) (Q : VK) (E : XK), Room k (A.deeper (envOfC x (defScope st) s.heap.objs.size f cdv)) → sp vs H Q E →
      ∃ t, PSs (cxOf CX0 P w K mg base N x (defScope st) f cdv A outer s H E).nox (defBody st) t ∧ t { nx := fun _ H' => Q .non H', rt := Q } (start N vs) H) : C8.Cal P w K mg base (k + 1) x sp [] := by
  obtain ⟨f, fd, F, g, b⟩ := D.ex
  exact ⟨f, fd, ps, [], F.ok S len (fun cdv A outer s H vs Q E hr h => hbody f cdv A outer s H vs Q E hr h), g, F.kp, b, .nil⟩
end
/-! ### what is drawn from -/
def BoxL (n : Nat) (b : List V) : Prop := ∃ b0 b1 b2 : Int, b = [.int b0, .int b1, .int b2] ∧ 0 ≤ b0 ∧ 0 ≤ b1 ∧ b1 < 4611686018427387904 ∧ 0 ≤ b2 ∧ b2 ≤ n
def spTake : Sp := fun vs H Q _ => ∃ (a : Addr) (many : Int) (n : Nat) (b : List V), vs = [.ref a, .int many] ∧ H a = some (.lst b) ∧ BoxL n b ∧ n < 1000000 ∧ 0 < many ∧ many < 1073741824 ∧
  ∀ (r : Int) (b' : List V), 0 ≤ r → r < many → BoxL (n + 1) b' → Q (.int r) (upd H a (.lst b'))
def spDip (K : PySem.W.Frag) : Sp := fun vs H Q _ => ∃ (a : Addr) (k : Nat) (ns : List Int), vs = [.ref a, .int k] ∧ SqL K H a (ns.map V.int) ∧ k ≤ 63 ∧
  ∀ (p : Addr) (b : List V), H p = none → BoxL 0 b → Q (.ref p) (upd H p (.lst b))
def spFold (K : PySem.W.Frag) : Sp := fun vs H Q _ => ∃ (a : Addr) (size : Nat) (ns : List Int), vs = [.ref a, .int size] ∧ SqL K H a (ns.map V.int) ∧ ns.length ≤ 63 ∧ 1 ≤ size ∧ size ≤ 8 ∧
  ∀ (H' : Hp) (p : Addr) (ms : List Int), Same H H' → H p = none → H' p = some (.lst (ms.map V.int)) → ms.length ≤ size → Q (.ref p) H'
/-- the built-in names that the law uses stand as they were -/
structure Bt (mg : Str → Option Value) : Prop where
  len : mg "len" = none
  abs : mg "abs" = none
  int : mg "int" = none
  list : mg "list" = none
  enumerate : mg "enumerate" = none
  range : mg "range" = none
theorem cut_len (xs : List V) (lo hi : Option Int) : (cutV xs lo hi).length ≤ xs.length := by
  unfold cutV
  rw [List.length_take, List.length_drop]
  omega
theorem cut_ints (ns : List Int) (lo hi : Option Int) : ∃ ms : List Int, cutV (ns.map V.int) lo hi = ms.map V.int ∧ ms.length ≤ ns.length := by
  refine ⟨(ns.drop (HT.sIx (ns.map V.int).length 0 lo)).take (HT.sIx (ns.map V.int).length (ns.map V.int).length hi - HT.sIx (ns.map V.int).length 0 lo), ?_, ?_⟩
  · unfold cutV
    rw [List.map_take, List.map_drop]
  · rw [List.length_take, List.length_drop]
    omega
theorem cut_to (ns : List Int) (size : Nat) : cutV (ns.map V.int) none (some (size : Int)) = (ns.take size).map V.int := by
  unfold cutV
  rw [HT.sIx_none, show HT.sIx (ns.map V.int).length (ns.map V.int).length (some (size : Int)) = min size (ns.map V.int).length from HT.sIx_nat _ _ size, List.map_take, List.length_map]
  show ((ns.map V.int).drop 0).take (min size ns.length - 0) = _
  rw [List.drop_zero, Nat.sub_zero]
  by_cases h : size ≤ ns.length
  · rw [Nat.min_eq_left h]
  · rw [Nat.min_eq_right (by omega), List.take_of_length_le (by rw [List.length_map]; omega), List.take_of_length_le (by rw [List.length_map]; omega)]
theorem cut_from_nil (ns : List Int) (size : Nat) (h : ns.length ≤ size) (hi : Option Int) : cutV (ns.map V.int) (some (size : Int)) hi = [] := by
  unfold cutV
  rw [show HT.sIx (ns.map V.int).length 0 (some (size : Int)) = min size (ns.map V.int).length from HT.sIx_nat _ _ size, List.drop_eq_nil_of_le (by rw [List.length_map]; omega), List.take_nil]
section
variable {X : Cx} {k j n i : Nat} {x : Str} {sp : Sp} {p pos : Pos} {e : Expr} {es : List Expr} {kws : List Keyword} {t tk : TA} {te : TE} {ks : List Str} {gV : List V → List V → List V}
/-! ### what is never reached -/
theorem pe_never {e : Expr} : PE X e (fun _ _ _ => False) := ⟨fun _ _ _ _ _ _ h => h.elim⟩
theorem pt_never {e : Expr} : PT X e (fun _ _ _ => False) := ⟨fun _ _ _ _ _ _ h => h.elim⟩
/-! ### calls with keywords -/
structure KCal (P : Program) (w : World) (K : PySem.W.Frag) (mg : Str → Option Value) (base : Heap) (k : Nat) (x : Str) (sp : Sp) (n : Nat) (ks : List Str) (gV : List V → List V → List V) : Prop where
  ex : ∃ (f : Addr) (fd : FuncData) (ps : List Str) (g : List Value → List Value → List Value), FnOk P w K mg base CX0 k f fd ps sp ∧ mg x = some (.ref f) ∧ PySem.W.keepIn K (.ref f) = true ∧ KBn K fd ps n ks g gV
theorem pe_kw (c : KCal X.prog X.w X.K X.mg X.base k x sp n ks gV) (hr : Room j X.A) (hk : k ≤ j) (hg : Gl X x) (ha : PA X (e :: es) t) (hkw : PK X kws tk)
    (hall : (backToKw pos (keywordEach kws X.env)).all (·.1.isSome) = true := by rfl) (hks : (backToKw pos (keywordEach kws X.env)).filterMap (·.1) = ks := by rfl)
    (hdb : (x == ("__debug__" : Str)) = false := by decide) (he : starEach (e :: es) X.env = (false, eval e X.env) :: starEach es X.env := by rfl)
    (hpl : ((backTo pos (starEach (e :: es) X.env)).any (·.1) || (backToKw pos (keywordEach kws X.env)).any (·.1.isNone)) = false := by rfl) :
    PE X (.Call (.Name x p) (e :: es) kws pos) (tCallN n ks.length sp gV E0 t tk) := by
  obtain ⟨f, fd, ps, g, F, hm, kp, b⟩ := c.ex
  exact pe_callN F (hr.mono hk) hg hm kp b pass0 ha hkw hall hks hdb he hpl
theorem pe_kw0 (c : KCal X.prog X.w X.K X.mg X.base k x sp 0 ks gV) (hr : Room j X.A) (hk : k ≤ j) (hg : Gl X x) (hkw : PK X kws tk)
    (hall : (backToKw pos (keywordEach kws X.env)).all (·.1.isSome) = true := by rfl) (hks : (backToKw pos (keywordEach kws X.env)).filterMap (·.1) = ks := by rfl)
    (hdb : (x == ("__debug__" : Str)) = false := by decide)
    (hpl : ((backTo pos (starEach [] X.env)).any (·.1) || (backToKw pos (keywordEach kws X.env)).any (·.1.isNone)) = false := by rfl) :
    PE X (.Call (.Name x p) [] kws pos) (tCallN 0 ks.length sp gV E0 tNil tk) := by
  obtain ⟨f, fd, ps, g, F, hm, kp, b⟩ := c.ex
  refine ⟨fun pins s σ H Q I h => ?_⟩
  refine wpAny_Call_Name_kw (ld_glob I hg hm ?_ hdb)
  refine PySem.W.callWith_KW0 (h₀ := X.base) I.ok.mod.kin kp hall ?_ hpl
  refine thn (hkw.run pos pins s σ H _ I h) fun ws s2 ⟨zs, H2, I2, rz, l1, l2, q2⟩ => ⟨I2.kIn, ?_⟩
  rw [hks]
  exact run_fnN (us := []) (vs := []) F (hr.mono hk) b pass0 I2 .nil rz rfl l2 q2
/-! ### x(*y), x a local name that holds a def -/
def tCallHS (P : Program) (w : World) (K : PySem.W.Frag) (mg : Str → Option Value) (base : Heap) (k i : Nat) (te : TE) : TE := fun σ H Q => ∃ f sp, σ[i]? = some (some (.ref f)) ∧ Held P w K mg base k f sp ∧
  te σ H fun y H1 => ∃ a xs, y = V.ref a ∧ (SqT K H1 a xs ∨ SqL K H1 a xs) ∧ sp xs H1 Q (fun _ _ _ => False)
theorem pe_callHS {sp_ : Pos} (hr : Room k X.A) (hN : X.N[i]? = some x) (hv : Vis X.env.scope x) (he : PE X e te)
    (hdb : (x == ("__debug__" : Str)) = false := by decide) (hcd : (x == ("__classdict__" : Str)) = false := by decide)
    (hst : starEach [.Starred e sp_] X.env = [(true, eval e X.env)] := by rfl) :
    PE X (.Call (.Name x p) [.Starred e sp_] [] pos) (tCallHS X.prog X.w X.K X.mg X.base k i te) := by
  refine ⟨fun pins s σ H Q I h => ?_⟩
  obtain ⟨f, sp, hs, hH, ht⟩ := h
  obtain ⟨fd, ps, F, hk, hb⟩ := hH.ex
  refine wpAny_Call_Name_kw (thn ((pe_var (pos := p) hN hv hdb hcd).run pins s σ H (fun v H1 => v = .ref f ∧ H1 = H) I ⟨.ref f, hs, rfl, rfl⟩) fun u s1 ⟨v, H1, I1, r1, q1⟩ => ?_)
  obtain ⟨rfl, rfl⟩ := q1
  cases r1
  refine PySem.W.callWith_S (h₀ := X.base) I.ok.mod.kin hk (thn (he.run pins s1 σ _ _ I1 ht) fun v s2 ⟨y, H2, I2, ry, a, xs, ey, hxs, q⟩ => ?_) hst
  subst ey
  obtain rfl : v = Value.ref a := ry
  refine StX.star_any I2 hxs fun us s3 I3 rv => ⟨I3.kIn, ?_⟩
  exact run_fn (E := fun _ _ _ => False) F hr hb .nil (fun _ _ _ _ _ _ _ z => z.elim) I3 rv (by rw [List.append_nil]; exact q)
end
section
variable {K : PySem.W.Frag} {x qual : Str} {params : Arguments} {body : List Stmt} {scope : Scope} {kws : List (Str × V)} {f : Addr} {fd : FuncData} {ps : List Str}
/-- keywords, and keyword-only defaults for those that lack; no other defaults -/
theorem kbinds0 (F : FunD K x qual params body scope [] kws f fd) (n : Nat) (ks : List Str) (g : {α : Type} → List α → List α → List α → List α) (hk : kws ≠ [])
    (hrel : ∀ {vs mz zs : List V} {us mv ws : List Value}, Vals vs us → Vals mz mv → Vals zs ws → Vals (g vs mz zs) (g us mv ws))
    (h : ∀ (D : Addr) (doc pm : Value) (an : Option Addr) (cdv ct : Value) (us mv ws : List Value), us.length = n → mv.length = kws.length → ws.length = ks.length →
      KwChain D ((kws.map (·.1)).zip mv) (bindArgs (PySem.W.fnOf x qual params body scope .none (.ref D) doc pm an cdv ct) ⟨us, ks.zip ws⟩) (ps.zip (g us mv ws))) :
    ∃ mv : List Value, KBn K fd ps n ks (fun us ws => g us mv ws) (fun vs zs => g vs (kws.map (·.2)) zs) := by
  obtain ⟨oc, od, dV, kV, doc, pm, an, cdv, ct, osl, rfl, lk, hcd, hD, hK⟩ := F.ex
  rcases hD with ⟨_, rfl⟩ | ⟨e, _⟩
  · rcases hK with e | ⟨D, rfl, hq⟩
    · exact absurd e hk
    · obtain ⟨mv, hl, rk, hks⟩ := kwd_vals hq
      refine ⟨mv, ⟨fun s us ws X l1 l2 => ?_, fun r1 r2 => hrel r1 rk r2⟩⟩
      exact BindsTo.of_looks fun M => KwChain.looks X hks (h D doc pm an cdv ct us mv ws l1 hl l2)
  · exact absurd rfl e
/-- keywords alone, every parameter named or placed -/
theorem kbindsN (F : FunD K x qual params body scope [] kws f fd) (n : Nat) (ks : List Str) (g : {α : Type} → List α → List α → List α)
    (hrel : ∀ {vs zs : List V} {us ws : List Value}, Vals vs us → Vals zs ws → Vals (g vs zs) (g us ws))
    (h : ∀ (kV doc pm : Value) (an : Option Addr) (cdv ct : Value) (us ws : List Value), us.length = n → ws.length = ks.length →
      bindArgs (PySem.W.fnOf x qual params body scope .none kV doc pm an cdv ct) ⟨us, ks.zip ws⟩ = pure (ps.zip (g us ws))) :
    KBn K fd ps n ks (fun us ws => g us ws) (fun vs zs => g vs zs) := by
  obtain ⟨oc, od, dV, kV, doc, pm, an, cdv, ct, osl, rfl, lk, hcd, hD, hK⟩ := F.ex
  rcases hD with ⟨_, rfl⟩ | ⟨e, _⟩
  · exact ⟨fun s us ws X l1 l2 => .of_eq (h kV doc pm an cdv ct us ws l1 l2), fun r1 r2 => hrel r1 r2⟩
  · exact absurd rfl e
end
/-! ### d.update(e) -/
def rDUpd : V → List V → Hp → VK → Prop := fun x vs H Q => ∃ (a b : Addr) (kvs more : List (Key × V)), x = .ref a ∧ vs = [.ref b] ∧ a ≠ b ∧ H a = some (.dK kvs) ∧ H b = some (.dK more) ∧ kvs.length + more.length ≤ 1000 ∧ Q .non (upd H a (.dK (mergeK kvs more)))
theorem mtd_update {X : Cx} : MtR X "dict.update" rDUpd := by
  intro pins s σ H x vs v us Q I rx rv h
  obtain ⟨a, b, kvs, more, ex, ev, nab, ea, eb, hz, q⟩ := h
  subst ex
  subst ev
  obtain rfl : v = Value.ref a := rx
  obtain ⟨u, eu, ru⟩ := rv.one
  subst eu
  obtain rfl : u = Value.ref b := ru
  obtain ⟨z1, ls1, vs1, r1, d1⟩ := I.hok a _ ea
  obtain ⟨z2, ls2, vs2, r2, d2⟩ := I.hok b _ eb
  have l1 : kvs.length = vs1.length := Paired.length r1
  have l2 : more.length = vs2.length := Paired.length r2
  refine call_meetsIn PySem.F.slot_dict_update d1.typeIs PySem.F.entry_dict_update (PySem.F.args_dict_update_2 _ _) (meets_dict_update (mixKind X.prog X.w) a b nab ls2)
    ⟨vs1, vs2, d1, d2, (by rw [← l1, ← l2]; exact Nat.le_trans hz (by decide)), fun h' hm _ hs => ?_⟩
  refine ⟨.non, upd H a (.dK (mergeK kvs more)), ?_, rfl, q⟩
  have hlen : (mergeK kvs more).length ≤ sizeLine := by
    have := length_mergeK more kvs
    have h2 : (1000 : Nat) ≤ sizeLine := by decide
    omega
  obtain ⟨oo, es', ep', ho', _⟩ := id hm
  exact I.write (t' := s.toks) (e := a) (o := .dK (mergeK kvs more)) (by rw [ea]; trivial) (.inl rfl) (fun c u nc e => (hs.2 c nc).trans e) ⟨oo, ho'⟩ ⟨hlen, ls1, merged vs1 vs2, KV.merge r2 r1, hm⟩
/-! ### an exception that is held as a value: its class, its own dict -/
def exv (a C d : Addr) : HO := .ext fun g => ∃ ob fv, g.get? a = some ob ∧ ob.cls = .ref C ∧ ob.dict = some d ∧ ob.data = .fields fv
theorem exv_ok {P : Program} {w : World} {H : Hp} {g : Heap} {a C d : Addr} {ob : Obj} {fv : Array Value} (h1 : g.get? a = some ob) (h2 : ob.cls = .ref C) (h3 : ob.dict = some d) (h4 : ob.data = .fields fv) : ObjOk P w H g a (exv a C d) :=
  ⟨⟨ob, fv, h1, h2, h3, h4⟩, ⟨ob, h1⟩, fun g1 g2 ⟨o2, f2, e1, e2, e3, e4⟩ k => ⟨o2, f2, k _ e1, e2, e3, e4⟩⟩
theorem exv_at {P : Program} {w : World} {H : Hp} {g : Heap} {a C d : Addr} (ok : HOk P w H g) (e : H a = some (exv a C d)) : ∃ ob fv, g.get? a = some ob ∧ ob.cls = .ref C ∧ ob.dict = some d ∧ ob.data = .fields fv := by
  have z : ObjOk P w H g a (.ext fun g => ∃ ob fv, g.get? a = some ob ∧ ob.cls = .ref C ∧ ob.dict = some d ∧ ob.data = .fields fv) := ok a _ e
  exact z.1
section
variable {X : Cx} {pins : List (Addr × Obj)} {σ : L2.St} {H : Hp} {s : Shared}
/-- an object that was made here and is not yet tracked is tracked from now on -/
theorem inv_track {a : Addr} {u : HO} (I : Inv X pins σ H s) (na : H a = none) (nw : ∀ o, X.s_0.heap.get? a ≠ some o) (nL : a ≠ X.env.locals) (nC : ∀ x c, X.env.cells.lookup x = some c → c ≠ a) (nP : ∀ p ∈ X.pn ++ pins, p.1 ≠ a)
    (new : ObjOk X.prog X.w (upd H a u) s.heap a u) : Inv X pins σ (upd H a u) s where
  ok := I.ok
  os := I.os
  bare := I.bare
  base := {
    keep := I.base.keep
    slot := I.base.slot
    free := fun b o e n hx => by
      have nb : b ≠ a := fun z => nw o (z ▸ e)
      rw [upd_ne nb]
      exact I.base.free b o e n hx
    there := I.base.there
    tups := fun b xs e => by
      have e' := I.base.tups b xs e
      rw [upd_ne (ne_of_none e' na)]
      exact e'
    frzs := fun b o xs e => by
      have e' := I.base.frzs b o xs e
      rw [upd_ne (ne_of_none e' na)]
      exact e'
    tbls := fun b ps e => by
      obtain ⟨m, e'⟩ := I.base.tbls b ps e
      exact ⟨m, by rw [upd_ne (ne_of_none e' na)]; exact e'⟩ }
  loc := I.loc
  cell := I.cell
  free := by
    rw [upd_ne (Ne.symm nL)]
    exact I.free
  freeC := fun x c e => by
    rw [upd_ne (nC x c e)]
    exact I.freeC x c e
  pin := fun p hp => by
    obtain ⟨p1, p2, p3⟩ := I.pin p hp
    exact ⟨p1, by rw [upd_ne (nP p hp)]; exact p2, p3⟩
  hok := fun b o e => by
    by_cases hb : b = a
    · subst hb
      rw [upd_same] at e
      cases e
      exact new
    · rw [upd_ne hb] at e
      exact (I.hok b o e).stay (fun _ _ _ z => z) (fun c z => by rw [upd_ne (ne_of_none z na)]; exact z) (fun c xs z => by rw [upd_ne (ne_of_none z na)]; exact z)
  len := I.len
end
/-- what 'except x as n' wishes, where the exception is tracked behind the suite -/
def wKeep (K : PySem.W.Frag) (c : Value) (i : Nat) (ts : Addr → Value → Option Addr → TS) (Wout : WX) (D : Ends) : WX := fun cls d σ H =>
  ∃ (C dd : Addr) (b : Bool), cls = .ref C ∧ d = some dd ∧ PySem.W.exmOne K cls c = some b ∧
    (b = true → ∀ a, H a = none → ts a cls d { nx := fun σ2 H2 => D.nx (σ2.set i none) (upd H2 a (exv a C dd)), rt := D.rt, bk := fun _ _ => False, ct := fun _ _ => False } (σ.set i (some (.ref a))) H) ∧ (b = false → Wout cls d σ H)
section
variable {X : Cx} {x n : Str} {c : Value} {i : Nat} {body suite : List Stmt} {b0 : Stmt} {np pos pos' : Pos} {tb : WX → TS} {ts : Addr → Value → Option Addr → TS} {Wout : WX}
theorem ps_try_keep (hst : X.stack = X.env :: X.outer) (hfr0 : X.env.frame = some X.env.locals) (hex : X.ex = []) (nd : X.N.Nodup) (hi : X.N[i]? = some n) (hk : X.env.kindOf n = some .local) (hnm : Names X x c) (tk : Takes X Wout)
    (hbody : ∀ (W : WX) (pn : List (Addr × Obj)) (xe : Value → Shared → Prop), Takes (X.tr pn xe) W → PassesOwn (model X.prog X.w) X.A X.env xe → PSs (X.tr pn xe) body (tb W))
    (hsuite : ∀ (a : Addr) (oe : Obj) (cls : Value) (d : Option Addr) (pn : List (Addr × Obj)), Zc cls d oe → (∃ vs, oe.data = .fields vs) → PSs (X.suite a ((a, oe) :: pn)) (b0 :: suite) (ts a cls d)) :
    PS X (.Try body [.ExceptHandler (some (.Name x np)) (some n) (b0 :: suite) pos'] [] [] pos) (fun D σ H => tb (wKeep X.K c i ts Wout D) D σ H) := by
  refine ⟨fun pins s σ H D I rd => ?_⟩
  have okX := I.ok
  have hA : X.A.frames = some (X.env :: X.outer) := okX.frames.trans (congrArg some hst)
  refine wpAny_Try_except (wpAny_mono ((hbody (wKeep X.K c i ts Wout D) (X.pn ++ pins)
    (fun e s1 => wpAny (model X.prog X.w) X.A (noteFrame e X.env) (fun _ s2 => wpAny (model X.prog X.w) X.A (setFlight e none) (fun _ s3 => wpAny (model X.prog X.w) X.A (handleBy e X.env [.ExceptHandler (some (.Name x np)) (some n) (b0 :: suite) pos']) (SP X pins D) X.xe s3) X.xe s2) X.xe s1)
    (fun u t xx => ?_) PassesOwn.looking).run [] s σ H D (I.toTry _) rd) (fun fl s1 hfl => ?_) (fun _ _ z => z))
  · obtain ⟨a, G, sI, pins2, σ2, H2, cls, d, eu, J0, inG, upS, sky0, na, eos, bare, C, dd, b, ecls, ed, hexm, hyes, hno⟩ := xx
    subst eu
    subst ecls
    subst ed
    have J : Inv X pins σ2 H2 sI := J0.ofTry okX
    rw [hst] at sky0
    refine Sky.land Zc.steady hA hfr0 sky0 fun g3 fly3 up3 => ?_
    have J3 : Inv X pins σ2 H2 { t with heap := g3 } := J.landed inG fly3.1 (upS.trans up3) eos bare
    obtain ⟨o3, f3, at3, z3, dat3⟩ := fly3.there
    have offF : a ∉ frs (X.env :: X.outer) := fun hm => by
      obtain ⟨_, ob, eo, nof⟩ := fly3.2.2.1.mem hm
      have eq : o3 = ob := Option.some.inj (at3.symm.trans eo)
      exact nof _ (eq ▸ dat3)
    have nLoc : a ≠ X.env.locals := fun z => offF (List.mem_filterMap.mpr ⟨X.env, List.mem_cons_self, by rw [hfr0, z]⟩)
    have nFs : a ∉ X.fs := fun hm => by
      obtain ⟨ev, hev, qe⟩ := List.mem_filterMap.mp hm
      exact offF (List.mem_filterMap.mpr ⟨ev, List.mem_cons_of_mem _ hev, qe⟩)
    have outG : G.get? a = none := fly3.2.1
    have outI : ∀ o, sI.heap.get? a ≠ some o := fun o z => by
      have z2 := inG a o z (by rw [hst]; exact offF)
      rw [outG] at z2
      cases z2
    have out0 : ∀ o, X.s_0.heap.get? a ≠ some o := fun o z => by
      obtain ⟨o', z2⟩ := J.base.there a o z (by rw [hex]; exact List.not_mem_nil)
      exact outI o' z2
    have noPin : ∀ p ∈ X.pn ++ pins, p.1 ≠ a := fun p hp z => outI p.2 (z ▸ (J.pin p hp).1)
    refine wpAny_handleBy_cons (codeAny_handlers_test ?_) (fun q => by cases q)
    have isT : PySem.W.Looks (model X.prog X.w) g3 (typeOf (.ref a)) (.ref C) := fun _ _ _ _ kp q => wpAny_typeOf_ref (kp _ _ at3) (by rw [z3.1]; exact q)
    have asks := PySem.W.exm_one (M := model X.prog X.w) J3.kIn isT hexm
    have S3 := J3.suite at3 dat3 na nLoc nFs
    have named : ∀ {Q E : Value → Shared → Prop}, Q c { t with heap := g3 } → wpAny (model X.prog X.w) (X.A.mark (some (.ref a))) (eval (.Name x np) X.env) Q E { t with heap := g3 } := fun {Q E} q => by
      obtain ⟨gl, db, way⟩ := hnm
      rcases way with m1 | ⟨m1, m2, m3⟩
      · exact ld_glob (X := X.suite a ((a, o3) :: (X.pn ++ pins))) S3 gl m1 q db
      · exact ld_blt (X := X.suite a ((a, o3) :: (X.pn ++ pins))) S3 gl m1 m2 q m3 db
    refine named (asks.here ?_)
    cases b with
    | true =>
      refine codeAny_handlers_suite_as (HandSPX.lands_againZ fly3 fun g4 fly4 up4 => ?_)
      have J4 : Inv X pins σ2 H2 { t with heap := g4 } := J.landed inG fly4.1 ((upS.trans up3).trans up4) eos bare
      obtain ⟨o4, f4, at4, z4, dat4⟩ := fly4.there
      have S4 := J4.suite at4 dat4 na nLoc nFs
      refine store_ok (X := X.suite a ((a, o4) :: (X.pn ++ pins))) (v := .ref a) S4 nd hi (.inl hk) rfl (fun s5 S5 => ?_) (.inr hk)
      refine wpAny_mono ((hsuite a o4 (.ref C) (some dd) (X.pn ++ pins) z4 ⟨_, dat4⟩).run [] s5 _ H2 _ S5 (hyes rfl a na)) (fun fl s6 hfl => ?_) (fun _ _ z => z.elim)
      cases fl with
      | next =>
        obtain ⟨σ6, H6, S6, q6⟩ := hfl
        refine gone_ok (X := X.suite a ((a, o4) :: (X.pn ++ pins))) S6 nd hi hk fun s7 S7 => ?_
        obtain ⟨at7, na7, _, _, nc7⟩ := S7.pin (a, o4) (by rw [List.append_nil]; exact List.mem_cons_self)
        have J7 : Inv X pins (σ6.set i none) H6 s7 := S7.unsuite okX
        refine ⟨_, _, inv_track (u := exv a C dd) J7 na7 out0 nLoc (fun y cc e z => ?_) noPin (exv_ok at7 z4.1 z4.2 dat4), q6⟩
        obtain ⟨vv, oc, ec, dc⟩ := J7.cell y cc e
        rw [z, at7] at ec
        cases ec
        rw [dat4] at dc
        cases dc
      | ret u =>
        obtain ⟨v6, σ6, H6, S6, r6, q6⟩ := hfl
        exact gone_ok (S6.unsuite okX) nd hi hk fun s7 J7 => ⟨_, _, _, J7, r6, q6⟩
      | brk =>
        obtain ⟨_, _, _, q6⟩ := hfl
        exact q6.elim
      | cont =>
        obtain ⟨_, _, _, q6⟩ := hfl
        exact q6.elim
    | false =>
      refine wpAny_handleBy_nil ?_
      obtain ⟨_, _, _, ob, fv, T, oT, _, eo, _, dat, h1, _⟩ := id fly3
      unfold PySem.passOn
      refine wpAny_bind (wpAny_field eo dat h1 ?_)
      rw [if_neg (show ¬ ((Value.ref T == Value.none) = true) by simp)]
      have leave : wpAny (model X.prog X.w) X.A (setFlight (.ref a) X.env.frame) (fun _ s4 => wpAny (model X.prog X.w) X.A (throw (.ref a) : Sem Flow) (SP X pins D) X.xe s4) X.xe { t with heap := g3 } := by
        rw [hfr0]
        refine HandSPX.setFlight_upZ fly3 fun g4 held4 up4 => wpAny_throw (tk _ _ ⟨a, G, sI, pins, σ2, H2, .ref C, some dd, rfl, J, inG, (upS.trans up3).trans up4, .inr (.inr ?_), na, eos, bare, hno rfl⟩)
        rw [hst]
        exact held4
      first
        | exact wpAny_bind (wpAny_pure (wpAny_bind leave))
        | exact wpAny_bind leave
  · cases fl with
    | next =>
      obtain ⟨σ1, H1, J1, q1⟩ := hfl
      exact wpAny_execs_nil ⟨_, _, J1.ofTry okX, q1⟩
    | brk =>
      obtain ⟨σ1, H1, J1, q1⟩ := hfl
      exact ⟨_, _, J1.ofTry okX, q1⟩
    | cont =>
      obtain ⟨σ1, H1, J1, q1⟩ := hfl
      exact ⟨_, _, J1.ofTry okX, q1⟩
    | ret u =>
      obtain ⟨v1, σ1, H1, J1, r1, q1⟩ := hfl
      exact ⟨_, _, _, J1.ofTry okX, r1, q1⟩
end
/-! ### what such a value bears, and of which class it is -/
structure XvC (K : PySem.W.Frag) (C : Addr) : Prop where
  ga : PySem.W.findIn K (.ref C) "__getattribute__" = some (some (.builtin "BaseException.__getattribute__"))
  gg : PySem.W.findIn K (.ref C) "__getattr__" = some none
  sb : PySem.W.subIn K (.ref C) (.type "BaseException") = some true
  hd : PySem.W.hasDictIn K C = true
  kl : PySem.W.findIn K (.ref C) "__class__" = some (some (.builtin "object.__class__"))
  kg : PySem.W.specialIn K (.builtin "object.__class__") "__get__" = some (some (.builtin "getset_descriptor.__get__"))
  kt : PySem.W.takesIn K (.builtin "object.__class__") = some true
  ob : PySem.W.mroIn K C (.type "object") = some true
def tXv (K : PySem.W.Frag) (f : Str) (te : TE) : TE := fun σ H Q => te σ H fun y H1 => ∃ (a C d : Addr) (fs : List (Str × V)) (v : V), y = .ref a ∧ H1 a = some (exv a C d) ∧ XvC K C ∧ PySem.W.findIn K (.ref C) f = some none ∧ H1 d = some (.xd fs) ∧ fs.lookup f = some v ∧ Q v H1
theorem inst_of {X : Cx} {pins : List (Addr × Obj)} {σ : L2.St} {H : Hp} {s : Shared} {a C d : Addr} {fs : List (Str × V)} (I : Inv X pins σ H s) (ea : H a = some (exv a C d)) (ed : H d = some (.xd fs)) :
    ∃ (ob od : Obj) (mA : Str → Option Value), PySem.W.InstAt s.heap a ob C (some od) ∧ (∀ f, RelO (fs.lookup f) (mA f)) ∧ ∀ nm, PySem.W.lookIn nm od = some (mA nm) := by
  obtain ⟨ob, fv, h1, h2, h3, h4⟩ := exv_at I.hok ea
  obtain ⟨mA, hns, hr⟩ : ObjOk X.prog X.w H s.heap d (.xd fs) := I.hok d _ ed
  obtain ⟨od, ho, hl⟩ := lookIn_ns hns
  refine ⟨ob, od, mA, ⟨h1, h2, ?_, ?_⟩, hr, hl⟩
  · unfold PySem.W.notCls
    rw [h4]
  · rw [h3]
    exact ho
theorem pe_xv {X : Cx} {e : Expr} {te : TE} {pos : Pos} {f : Str} (he : PE X e te) (hb : attributeBase e f X.env (eval e X.env) = eval e X.env := by rfl) : PE X (.Attribute e f pos) (tXv X.K f te) := by
  refine ⟨fun pins s σ H Q I rd => attr_of hb (thn (he.run pins s σ H _ I rd) fun u s1 hh => ?_)⟩
  obtain ⟨y, H1, I1, ry, a, C, d, fs, v, ey, ea, T, hno, ed, hl, q⟩ := hh
  subst ey
  obtain rfl : u = Value.ref a := ry
  obtain ⟨ob, od, mA, J, hr, hlk⟩ := inst_of I1 ea ed
  obtain ⟨u2, e2, r2⟩ := RelO.some_of (v := v) (o := mA f) (by rw [← hl]; exact hr f)
  exact HandSPX.exc_get I1.kIn J T.ga T.gg T.sb (PySem.W.findObj_own T.hd hno rfl (by rw [hlk, e2])) (handed_of r2) ⟨v, H1, I1.tok _, r2, q⟩
/-- isinstance(e, c) -/
def rXvI (K : PySem.W.Frag) : List V → Hp → VK → Prop := fun xs H Q => ∃ (a C d : Addr) (fs : List (Str × V)) (c : V) (cu : Value) (b : Bool), xs = [.ref a, c] ∧ H a = some (exv a C d) ∧ XvC K C ∧ H d = some (.xd fs) ∧ ClsV c cu ∧ PySem.W.kitOne K (.ref C) cu = some b ∧ Q (.bl b) H
theorem call_isXv {X : Cx} : CallR X (.builtin "isinstance") (rXvI X.K) := by
  intro pins s σ H xs us Q I r h
  obtain ⟨a, C, d, fs, c, cu, b, rfl, ea, T, ed, hc, hk, q⟩ := h
  cases r with
  | cons r1 rr =>
    cases rr with
    | cons r2 r3 =>
      cases r3
      cases r1
      have ec := hc.eq r2
      subst ec
      obtain ⟨ob, od, mA, J, hr, hlk⟩ := inst_of I ea ed
      have hcl : (PySem.W.clsIn X.K C).isSome = true := by
        obtain ⟨cd, e1, _⟩ := PySem.W.any_some T.hd
        rw [e1]
        rfl
      exact PySem.W.kia_one (PySem.W.kitx_exc hcl T.ga T.gg T.sb T.kl T.kg T.kt T.ob) I.kIn J hk (fun z => nomatch z) fun tk => ⟨.bl b, H, I.kept (t' := tk) fun _ _ z => z, rfl, q⟩
/-- isinstance(e, (c1, c2, ..)) -/
def rXvT (K : PySem.W.Frag) : List V → Hp → VK → Prop := fun xs H Q => ∃ (a C d tp : Addr) (fs : List (Str × V)) (cs : List V) (cu : List Value) (b : Bool), xs = [.ref a, .ref tp] ∧ H a = some (exv a C d) ∧ XvC K C ∧ H d = some (.xd fs) ∧ H tp = some (.tup cs) ∧ Paired ClsV cs cu ∧
  PySem.W.kitAny K (.ref C) cu = some b ∧ Q (.bl b) H
theorem call_isXvT {X : Cx} : CallR X (.builtin "isinstance") (rXvT X.K) := by
  intro pins s σ H xs us Q I r h
  obtain ⟨a, C, d, tp, fs, cs, cu, b, rfl, ea, T, ed, et, hc, hk, q⟩ := h
  cases r with
  | cons r1 rr =>
    cases rr with
    | cons r2 r3 =>
      cases r3
      cases r1
      cases r2
      obtain ⟨ob, od, mA, J, hr, hlk⟩ := inst_of I ea ed
      have hcl : (PySem.W.clsIn X.K C).isSome = true := by
        obtain ⟨cd, e1, _⟩ := PySem.W.any_some T.hd
        rw [e1]
        rfl
      obtain ⟨hz, its, rv, ⟨c5, d5, t5, s5⟩, p1, p2, n5, p3⟩ : ObjOk X.prog X.w H s.heap tp (.tup cs) := I.hok tp _ et
      have ei := ClsV.all hc rv
      subst ei
      dsimp only at p2 p3
      subst p2 p3
      exact PySem.W.kia_tup (PySem.W.kitx_exc hcl T.ga T.gg T.sb T.kl T.kg T.kt T.ob) I.kIn J p1 hk (fun z => nomatch z) fun tk => ⟨.bl b, H, I.kept (t' := tk) fun _ _ z => z, rfl, q⟩
/-! ### calls with keywords of a def that may let an error out -/
structure KCalX (P : Program) (w : World) (K : PySem.W.Frag) (mg : Str → Option Value) (base : Heap) (k : Nat) (x : Str) (sp : Sp) (n : Nat) (ks : List Str) (gV : List V → List V → List V) : Prop where
  ex : ∃ (f : Addr) (fd : FuncData) (ps : List Str) (g : List Value → List Value → List Value), FnOk P w K mg base (L2.CX P w) k f fd ps sp ∧ mg x = some (.ref f) ∧ PySem.W.keepIn K (.ref f) = true ∧ KBn K fd ps n ks g gV
structure CalX (P : Program) (w : World) (K : PySem.W.Frag) (mg : Str → Option Value) (base : Heap) (k : Nat) (x : Str) (sp : Sp) (dvs : List V) : Prop where
  ex : ∃ (f : Addr) (fd : FuncData) (ps : List Str) (ds : List Value), FnOk P w K mg base (L2.CX P w) k f fd ps sp ∧ mg x = some (.ref f) ∧ PySem.W.keepIn K (.ref f) = true ∧ Binds K fd ps ds ∧ Vals dvs ds
theorem passX {X : Cx} : Passes (L2.CX X.prog X.w) X (fun _ _ _ => False) := fun _ _ _ _ _ _ _ h => by
  obtain ⟨_, _, _, _, _, _, _, _, _, _, _, _, z⟩ := h
  exact z.elim
section
variable {X : Cx} {k j n : Nat} {x : Str} {sp : Sp} {p pos : Pos} {e : Expr} {es : List Expr} {kws : List Keyword} {t tk : TA} {ks : List Str} {gV : List V → List V → List V} {dvs : List V}
theorem pe_cX (c : CalX X.prog X.w X.K X.mg X.base k x sp dvs) (hr : Room j X.A) (hk : k ≤ j) (hg : Gl X x) (ha : PA X (e :: es) t)
    (hdb : (x == ("__debug__" : Str)) = false := by decide) (he : starEach (e :: es) X.env = (false, eval e X.env) :: starEach es X.env := by rfl) (hpl : (backTo pos (starEach es X.env)).any (·.1) = false := by rfl) :
    PE X (.Call (.Name x p) (e :: es) [] pos) (tCall sp dvs (fun _ _ _ => False) t) := by
  obtain ⟨f, fd, ps, ds, F, hm, kp, b, d⟩ := c.ex
  exact pe_call F (hr.mono hk) hg hm kp b d passX ha hdb he hpl
theorem pe_kwX (c : KCalX X.prog X.w X.K X.mg X.base k x sp n ks gV) (hr : Room j X.A) (hk : k ≤ j) (hg : Gl X x) (ha : PA X (e :: es) t) (hkw : PK X kws tk)
    (hall : (backToKw pos (keywordEach kws X.env)).all (·.1.isSome) = true := by rfl) (hks : (backToKw pos (keywordEach kws X.env)).filterMap (·.1) = ks := by rfl)
    (hdb : (x == ("__debug__" : Str)) = false := by decide) (he : starEach (e :: es) X.env = (false, eval e X.env) :: starEach es X.env := by rfl)
    (hpl : ((backTo pos (starEach (e :: es) X.env)).any (·.1) || (backToKw pos (keywordEach kws X.env)).any (·.1.isNone)) = false := by rfl) :
    PE X (.Call (.Name x p) (e :: es) kws pos) (tCallN n ks.length sp gV (fun _ _ _ => False) t tk) := by
  obtain ⟨f, fd, ps, g, F, hm, kp, b⟩ := c.ex
  exact pe_callN F (hr.mono hk) hg hm kp b passX ha hkw hall hks hdb he hpl
theorem pe_kw0X (c : KCalX X.prog X.w X.K X.mg X.base k x sp 0 ks gV) (hr : Room j X.A) (hk : k ≤ j) (hg : Gl X x) (hkw : PK X kws tk)
    (hall : (backToKw pos (keywordEach kws X.env)).all (·.1.isSome) = true := by rfl) (hks : (backToKw pos (keywordEach kws X.env)).filterMap (·.1) = ks := by rfl)
    (hdb : (x == ("__debug__" : Str)) = false := by decide)
    (hpl : ((backTo pos (starEach [] X.env)).any (·.1) || (backToKw pos (keywordEach kws X.env)).any (·.1.isNone)) = false := by rfl) :
    PE X (.Call (.Name x p) [] kws pos) (tCallN 0 ks.length sp gV (fun _ _ _ => False) tNil tk) := by
  obtain ⟨f, fd, ps, g, F, hm, kp, b⟩ := c.ex
  refine ⟨fun pins s σ H Q I h => ?_⟩
  refine wpAny_Call_Name_kw (ld_glob I hg hm ?_ hdb)
  refine PySem.W.callWith_KW0 (h₀ := X.base) I.ok.mod.kin kp hall ?_ hpl
  refine thn (hkw.run pos pins s σ H _ I h) fun ws s2 ⟨zs, H2, I2, rz, l1, l2, q2⟩ => ⟨I2.kIn, ?_⟩
  rw [hks]
  exact run_fnN (us := []) (vs := []) F (hr.mono hk) b passX I2 .nil rz rfl l2 q2
/-- what it lets out is wished for at the caller's slots -/
def tCallNT (n m : Nat) (sp : Sp) (gV : List V → List V → List V) (W : WX) (t tk : TA) : TE := fun σ H Q => t σ H fun vs H1 => tk σ H1 fun zs H2 => vs.length = n ∧ zs.length = m ∧ sp (gV vs zs) H2 Q (WE W σ)
theorem pe_kwT {W : WX} (c : KCalX X.prog X.w X.K X.mg X.base k x sp n ks gV) (hr : Room j X.A) (hk : k ≤ j) (hg : Gl X x) (tkw : Takes X W) (ha : PA X (e :: es) t) (hkw : PK X kws tk)
    (hall : (backToKw pos (keywordEach kws X.env)).all (·.1.isSome) = true := by rfl) (hks : (backToKw pos (keywordEach kws X.env)).filterMap (·.1) = ks := by rfl)
    (hdb : (x == ("__debug__" : Str)) = false := by decide) (he : starEach (e :: es) X.env = (false, eval e X.env) :: starEach es X.env := by rfl)
    (hpl : ((backTo pos (starEach (e :: es) X.env)).any (·.1) || (backToKw pos (keywordEach kws X.env)).any (·.1.isNone)) = false := by rfl) :
    PE X (.Call (.Name x p) (e :: es) kws pos) (tCallNT n ks.length sp gV W t tk) := by
  obtain ⟨f, fd, ps, g, F, hm, kp, b⟩ := c.ex
  refine ⟨fun pins s σ H Q I h => ?_⟩
  refine wpAny_Call_Name_kw (ld_glob I hg hm ?_ hdb)
  refine PySem.W.callWith_KW (h₀ := X.base) I.ok.mod.kin kp hall (thn (ha.run pos pins s σ H _ I h) fun us s1 ⟨vs, H1, I1, r, q⟩ => ?_) hpl he
  refine thn (hkw.run pos pins s1 σ H1 _ I1 q) fun ws s2 ⟨zs, H2, I2, rz, l1, l2, q2⟩ => ⟨I2.kIn, ?_⟩
  rw [hks]
  have r2 := b.rel r rz
  refine wpAny_call (codeAny_mono (F.run X.A X.stack s2 H2 ⟨us, ks.zip ws⟩ (g us ws) (gV vs zs) Q (WE W σ) (hr.mono hk) I2.env0 (b.to s2 us ws I2.kIn (r.length.symm.trans l1) (rz.length.symm.trans l2)) r2 q2) fun res s' hq => ?_)
  cases res with
  | error er => exact passAt tkw σ pins H2 s2 er s' I2 hq
  | ok fl =>
    cases fl with
    | ret u => exact I2.after hq
    | next => exact hq.elim
    | brk => exact hq.elim
    | cont => exact hq.elim
end
end Thr
namespace PySem
namespace Oxb
open PySem.W PySem.Calls PyProof.Rows PySem.HandSPX
section
open Builtin Builtin.ObjectAttr
variable {prog : Program} {w : World} {A : Around} {R : Result → Shared → Prop} {h0 : Heap} {gs : Array GenState} {dr : Drawn} {tn : Nat} {os : OsState}
/-- the mro of such a class lets a field be stored -/
structure MroOk (m : List Value) : Prop where
  pass : ∀ self, refuseLoop self "__setattr__" m = pure ()
  obj : m.contains (.type "object") = true
  full : m.isEmpty = false
theorem sub_obj {K : W.Frag} {e C : Addr} {ob : Obj} {od : Option Obj} {cd : ClassData} (X : K.In h0) (I : W.InstAt h0 e ob C od) (hcd : W.clsIn K C = some cd) (hm : MroOk cd.mro) : W.Looks (model prog w) h0 (isInstance (.ref e) (.type "object")) true := by
  refine I.type.andThen (W.looks_mroIn X ?_)
  unfold W.mroIn
  rw [hcd, Option.bind_some, if_neg (by rw [hm.full]; decide), hm.obj]
/-- the first field: the dict is laid -/
theorem store_first {K : W.Frag} {nm : Str} {tk : Tok} {v : Value} {e C : Addr} {fv : Array Value} {cd : ClassData} (X : K.In h0) (he : h0.get? e = some { cls := .ref C, data := .fields fv }) (hcd : W.clsIn K C = some cd) (hm : MroOk cd.mro) (hh : cd.hasDict = true) (ha : W.findIn K (.ref C) nm = some none)
    (hq : ∀ h1 t1 dx, (∀ b o, b ≠ e → h0.get? b = some o → h1.get? b = some o) → h0.objs.size ≤ dx → dx ≠ e → h1.get? e = some { cls := .ref C, dict := some dx, data := .fields fv } → h1.Ns1 dx (fun y => if y = nm then some v else none) → R (.ok (.ret .none)) ⟨h1, gs, dr, t1, os⟩) :
    codeAny (model prog w) A (.call (.builtin "object.__setattr__") ⟨[.ref e, .str nm tk, v], []⟩) R ⟨h0, gs, dr, tn, os⟩ := by
  have J : W.InstAt h0 e { cls := .ref C, data := .fields fv } C none := ⟨he, rfl, rfl, trivial⟩
  have hes : e ≠ h0.objs.size := Nat.ne_of_lt (Heap.lt_size he)
  have L1 : W.Looks (model prog w) h0 (mroOf (.ref C)) cd.mro := (W.looks_clsIn X hcd).andThen .now
  have L2 : W.Looks (model prog w) h0 (storeTaker? none) none := .now
  have L4 : W.Looks (model prog w) h0 (classData C) cd := W.looks_clsIn X hcd
  refine codeAny_call_builtin F.store_object.slot.plain F.store_object.entry (@W.check_slot (model prog w) _ _ ⟨h0, gs, dr, tn, os⟩ "object.__setattr__" "object" "__setattr__" (.ref e) [.str nm tk, v] [] _ F.store_object.kind F.store_object.split (sub_obj X J hcd hm) (F.store_object.args (.ref e) (.str nm tk) v) ?_)
  rw [W.osa_eq, refuse_eq]
  refine wpAny_bind (wpAny_bind (J.type.at (wpAny_bind (L1.at ?_))))
  rw [hm.pass]
  refine wpAny_pure (wpAny_bind (J.type.at (wpAny_bind ((W.looks_findIn X ha).at (wpAny_bind (L2.at ?_))))))
  show wpAny _ _ (storeInOwnDict (.ref e) (.ref C) (.str nm tk) nm v false) _ _ _
  obtain ⟨c1, c2, c3, c4, c5, c6, c7, c8, c9, c10, c11⟩ := cd
  dsimp only at hh
  subst hh
  unfold storeInOwnDict ownDictForStores
  repeat (first | with_reducible refine store_in_new ?_ ?_ | with_reducible refine wpAny_loadPart_at he ?_ | with_reducible refine L4.at ?_ | wp_step)
  · exact ⟨_, #[], _, (Heap.get?_update_ne _ _ _ _ hes.symm).trans (Heap.get?_push_at rfl rfl), rfl, fun x hx => absurd hx (by simp), fun _ => rfl⟩
  · intro h1 t1 hn hs
    have he1 : (h0.push { cls := .type "dict", data := .dict #[] }).get? e = some { cls := .ref C, data := .fields fv } := Heap.get?_push_of_some _ he
    refine hq h1 t1 h0.objs.size (fun b o hb ho => ?_) (Nat.le_refl _) hes.symm ((hs.2 e hes).trans (Heap.get?_update_self _ he1 rfl)) hn
    exact (hs.2 b (Nat.ne_of_lt (Heap.lt_size ho))).trans ((Heap.get?_update_ne _ _ _ _ hb).trans (Heap.get?_push_of_some _ ho))
/-- a further field -/
theorem store_more {K : W.Frag} {nm : Str} {tk : Tok} {v : Value} {e C dx : Addr} {fv : Array Value} {cd : ClassData} {m0 : Str → Option Value} {nl : List Str} (X : K.In h0) (he : h0.get? e = some { cls := .ref C, dict := some dx, data := .fields fv }) (hns : h0.Ns1 dx m0) (hw : Within m0 nl) (hz : nl.length ≤ 1000)
    (hcd : W.clsIn K C = some cd) (hm : MroOk cd.mro) (hh : cd.hasDict = true) (ha : W.findIn K (.ref C) nm = some none)
    (hq : ∀ h1 t1, (∀ b o, b ≠ dx → h0.get? b = some o → h1.get? b = some o) → h1.Ns1 dx (fun y => if y = nm then some v else m0 y) → R (.ok (.ret .none)) ⟨h1, gs, dr, t1, os⟩) :
    codeAny (model prog w) A (.call (.builtin "object.__setattr__") ⟨[.ref e, .str nm tk, v], []⟩) R ⟨h0, gs, dr, tn, os⟩ := by
  obtain ⟨oD, esD, epD, hoD, _, _⟩ := hns.count hw
  have J : W.InstAt h0 e { cls := .ref C, dict := some dx, data := .fields fv } C (some oD) := ⟨he, rfl, rfl, hoD⟩
  have L1 : W.Looks (model prog w) h0 (mroOf (.ref C)) cd.mro := (W.looks_clsIn X hcd).andThen .now
  have L2 : W.Looks (model prog w) h0 (storeTaker? none) none := .now
  have L4 : W.Looks (model prog w) h0 (classData C) cd := W.looks_clsIn X hcd
  refine codeAny_call_builtin F.store_object.slot.plain F.store_object.entry (@W.check_slot (model prog w) _ _ ⟨h0, gs, dr, tn, os⟩ "object.__setattr__" "object" "__setattr__" (.ref e) [.str nm tk, v] [] _ F.store_object.kind F.store_object.split (sub_obj X J hcd hm) (F.store_object.args (.ref e) (.str nm tk) v) ?_)
  rw [W.osa_eq, refuse_eq]
  refine wpAny_bind (wpAny_bind (J.type.at (wpAny_bind (L1.at ?_))))
  rw [hm.pass]
  refine wpAny_pure (wpAny_bind (J.type.at (wpAny_bind ((W.looks_findIn X ha).at (wpAny_bind (L2.at ?_))))))
  show wpAny _ _ (storeInOwnDict (.ref e) (.ref C) (.str nm tk) nm v false) _ _ _
  obtain ⟨c1, c2, c3, c4, c5, c6, c7, c8, c9, c10, c11⟩ := cd
  dsimp only at hh
  subst hh
  unfold storeInOwnDict ownDictForStores
  repeat (first | with_reducible refine PySem.OEX.store_in_old hns hw hz ?_ | with_reducible refine wpAny_loadPart_at he ?_ | with_reducible refine L4.at ?_ | wp_step)
  exact fun h1 t1 hn hs => hq h1 t1 (fun b o hb ho => (hs.2 b hb).trans ho) hn
end
/-! ### making such an error: the built-in __new__ that it inherits, then its own __init__ -/
structure NewOk (newId : String) (bm : List Value) : Prop where
  ex : ∃ (Bn initn : String) (bn : List Value), ExcBaseFacts Bn newId initn bn ∧ bm.contains (.type Bn) = true ∧ bm.contains (.type "AttributeError") = false ∧ bm.contains (.type "NameError") = false
structure InitOk (B : String) (bm : List Value) : Prop where
  plain : plainId (B ++ ".__init__") = true
  entry : entryFor table (B ++ ".__init__") = some Builtin.«BaseException.__init__»
  kind : builtinKind (B ++ ".__init__") = some .slot
  split : splitId (B ++ ".__init__") = some (B, "__init__")
  row : Manifest.signature? (B ++ ".__init__") = some ⟨.positional, "*", B, .self, [⟨"args", .varPos, false⟩]⟩
  star : (B != "*") = true
  has : bm.contains (.type B) = true
section
variable {prog : Program} {w : World} {A : Around} {E : Value → Shared → Prop} {R : Result → Shared → Prop} {hp : Heap} {ga : Array GenState} {dw : Drawn} {tn : Nat} {os : OsState}
variable {n1 n2 : Str} {C N : Addr} {b1 bm : List Value} {hd : Bool} {s1 : List Str} {s2 : List Value} {ab : Bool} {co : Option Bool} {d1 : Option Addr} {k0 k1 k2 k3 k5 : Option Value} {B newId : String}
theorem init_any (I : InitOk B bm) {e t0 : Addr} {more : List Value} (hC : hp.get? C = some (excClassObj n1 n2 C N b1 bm hd s1 s2 ab co d1 k0 k1 k2 k3 k5 newId)) (he : hp.get? e = some (excO C t0)) (hl : more.length ≤ sizeLine)
    (hq : ∀ h2 t2, (∀ b o, b ≠ e → hp.get? b = some o → h2.get? b = some o) → h2.get? e = some (excO C t2) → R (.ok (.ret .none)) ⟨h2, ga, dw, tn, os⟩) :
    codeAny (model prog w) A (.call (.builtin (B ++ ".__init__")) ⟨.ref e :: more, []⟩) R ⟨hp, ga, dw, tn, os⟩ := by
  have hin : (Value.ref C :: bm).contains (.type B) = true := by
    rw [List.contains_cons, I.has, Bool.or_true]
  have hst := I.star
  refine codeAny_call_builtin I.plain I.entry ?_
  have chk : ∀ {Q : Unit → Shared → Prop} {E : Value → Shared → Prop} {A : Around}, Q () ⟨hp, ga, dw, tn, os⟩ → wpAny (model prog w) A (checkBuiltinCall (B ++ ".__init__") ⟨.ref e :: more, []⟩) Q E ⟨hp, ga, dw, tn, os⟩ := fun {Q E A} q => by
    simp only [checkBuiltinCall, I.kind, I.split, I.row]
    repeat (first | (with_reducible refine wpAny_loadPart_at he ?_) | with_reducible refine wpAny_loadPart_at hC ?_ | (with_reducible refine wpAny_isSubtype_exc hC ?_; rw [hin]) | wp_step)
    refine wpAny_onRaise ?_
    rw [show ∀ (x y : String) (n : Nat), Bind.check ⟨.positional, "*", B, .self, [⟨"args", .varPos, false⟩]⟩ x y n (List.map (fun z => z.fst) ({ pos := Value.ref e :: more } : Args).kw) = pure () from
      fun _ _ _ => check_star_args _ _ _ _ _ _]
    exact wpAny_pure q
  refine chk ?_
  wp_walk
  refine hq _ hp.objs.size (fun b o hb ho => ?_) ?_
  · exact (Heap.get?_update_other _ _ (Ne.symm hb)).trans (Heap.get?_push_of_some _ ho)
  · exact Heap.get?_update_self _ (Heap.get?_push_of_some _ he) rfl
theorem new_any (Nw : NewOk newId bm) {more : List Value} (hC : hp.get? C = some (excClassObj n1 n2 C N b1 bm hd s1 s2 ab co d1 k0 k1 k2 k3 k5 newId)) (hl : more.length ≤ sizeLine)
    (hq : R (.ok (.ret (.ref (hp.objs.size + 1)))) ⟨(hp.push { cls := .type "tuple", data := .seq more.toArray }).push { cls := .ref C, data := .fields #[.ref hp.objs.size, .none, .none, .none, .bool false, .none] }, ga, dw, tn, os⟩) :
    codeAny (model prog w) A (.builtin newId ⟨.ref C :: more, []⟩) R ⟨hp, ga, dw, tn, os⟩ := by
  obtain ⟨Bn, initn, bn, FB, c1, c2, c3⟩ := Nw.ex
  have e0 := FB.ends
  have e1 : (Value.ref C :: bm).contains (.type Bn) = true := by
    rw [List.contains_cons, c1, Bool.or_true]
  have e2 : (Value.ref C :: bm).contains (.type "AttributeError") = false := by
    rw [List.contains_cons, c2]
    rfl
  have e3 : (Value.ref C :: bm).contains (.type "NameError") = false := by
    rw [List.contains_cons, c3]
    rfl
  refine codeAny_builtinAt FB.entry ?_
  unfold Builtin.«BaseException.__new__»
  refine wpAt_bind ?_
  show wpAt _ _ _ (stack >>= _) _ _ _
  refine wpAt_bind (wpAt_stack fun p below => wpAt_of_wpAny ?_)
  wp_walk
  refine wpAt_of_wpAny ?_
  rw [FB.owner]
  repeat (first | with_reducible refine wpAny_madeHere_exc FB.canon hC ?_ | with_reducible refine wpAny_loadPart_at hC ?_ | (with_reducible refine wpAny_isSubtype_exc hC ?_; first | rw [e1] | rw [e2] | rw [e3]) | wp_step)
  show R _ _
  rw [Heap.size_push]
  exact hq
theorem check_any (Nw : NewOk newId bm) {M : Model} {more : List Value} {Q : Unit → Shared → Prop} (hC : hp.get? C = some (excClassObj n1 n2 C N b1 bm hd s1 s2 ab co d1 k0 k1 k2 k3 k5 newId)) (q : Q () ⟨hp, ga, dw, tn, os⟩) :
    wpAny M A (checkBuiltinCall newId ⟨.ref C :: more, []⟩) Q E ⟨hp, ga, dw, tn, os⟩ := by
  obtain ⟨Bn, initn, bn, FB, c1, c2, c3⟩ := Nw.ex
  have e1 : (Value.ref C :: bm).contains (.type Bn) = true := by
    rw [List.contains_cons, c1, Bool.or_true]
  have e0 := FB.noStar
  simp only [checkBuiltinCall, FB.newKind, FB.newSplit, FB.newRow]
  repeat (first | refine wpAny_loadPart_at hC ?_ | (refine wpAny_isSubtype_exc hC ?_; rw [e1]) | refine wpAny_staticBase_exc hC ?_ | refine wpAny_madeBy_exc hC ?_ | simp only [bne_self_eq_false, Bool.false_eq_true, if_false] | wp_step)
  exact q
theorem typeCall_any (Nw : NewOk newId bm) {more : List Value} {fI : Addr} {Q : Fin → Shared → Prop} (hC : hp.get? C = some (excClassObj n1 n2 C N b1 bm hd s1 s2 ab co d1 k0 k1 k2 k3 k5 newId))
    (hi : W.Looks (model prog w) hp (typeLookup (.ref C) "__init__") (some (.ref fI))) (hb : ∀ self, W.Looks (model prog w) hp (bindSpecial (.ref fI) self) (.ref fI, [self])) (hl : more.length ≤ sizeLine)
    (hq : codeAny (model prog w) A (.call (.ref fI) ⟨.ref (hp.objs.size + 1) :: more, []⟩) (fun res z => match res with | .ok (.ret v) => v = .none ∧ Q (.done (.ret (.ref (hp.objs.size + 1)))) z | .ok _ => False | .error er => E er z) ⟨(hp.push (W.kdv_tup more)).push (excO C hp.objs.size), ga, dw, tn, os⟩) :
    wpAny (model prog w) A (Builtin.«type.__call__» ⟨.ref C :: more, []⟩) Q E ⟨hp, ga, dw, tn, os⟩ := by
  obtain ⟨Bn, initn, bn, FB, _, _, _⟩ := id Nw.ex
  repeat (first | with_reducible refine wpAny_loadPart_at hC ?_ | with_reducible refine wpAny_madeBy_exc hC ?_ | wp_step)
  refine codeAny_call_builtin_code (Code.quiet_builtin _ FB.quiet) (check_any Nw hC ?_)
  refine new_any Nw hC hl ?_
  show wpAny _ _ _ _ _ _
  have up : ∀ b o, hp.get? b = some o → ((hp.push (W.kdv_tup more)).push (excO C hp.objs.size)).get? b = some o := fun b o z => Heap.get?_push_of_some _ (Heap.get?_push_of_some _ z)
  have hC2 := up _ _ hC
  have hE : ((hp.push (W.kdv_tup more)).push (excO C hp.objs.size)).get? (hp.objs.size + 1) = some (excO C hp.objs.size) := by heap_get
  have self_in : (Value.ref C :: bm).contains (.ref C) = true := by simp
  have l1 := hi.keeps up
  have l2 := (hb (.ref (hp.objs.size + 1))).keeps up
  unfold isInstance
  repeat (first | with_reducible refine wpAny_loadPart_at hE ?_ | (with_reducible refine wpAny_isSubtype_exc hC2 ?_; rw [self_in]) | wp_step)
  show wpAny _ _ (typeLookup (.ref C) _) _ _ _
  refine l1.at (wpAny_holding (wpAny_bind (l2.at ?_)))
  refine wpAny_bind (wpAny_call (codeAny_mono hq fun res z q => ?_))
  rcases res with er | (v | _ | _ | _) <;> first | exact q | exact q.elim | skip
  obtain ⟨rfl, q⟩ := q
  first
    | exact wpAny_pure (wpAny_pure q)
    | (wp_walk; exact q)
theorem call_any (Nw : NewOk newId bm) {more : List Value} {fI : Addr} (hC : hp.get? C = some (excClassObj n1 n2 C N b1 bm hd s1 s2 ab co d1 k0 k1 k2 k3 k5 newId))
    (hi : W.Looks (model prog w) hp (typeLookup (.ref C) "__init__") (some (.ref fI))) (hb : ∀ self, W.Looks (model prog w) hp (bindSpecial (.ref fI) self) (.ref fI, [self])) (hl : more.length ≤ sizeLine)
    (hq : codeAny (model prog w) (A.under (.builtin "type.__call__" ⟨.ref C :: more, []⟩)) (.call (.ref fI) ⟨.ref (hp.objs.size + 1) :: more, []⟩) (W.InitBack (hp.objs.size + 1) R) ⟨(hp.push (W.kdv_tup more)).push (excO C hp.objs.size), ga, dw, tn, os⟩) :
    codeAny (model prog w) A (.call (.ref C) ⟨more, []⟩) R ⟨hp, ga, dw, tn, os⟩ := by
  have g1 := tc_lookup
  have g2 := tc_bind (.ref C)
  have hty : (⟨hp, ga, dw, tn, os⟩ : Shared).TypeIs (.ref C) "type" := ⟨_, hC, rfl⟩
  refine codeAny_of_tree ?_
  show wpAny _ _ (callAny (.ref C) _) _ _ _
  repeat (any_goals (first | assumption | with_reducible refine wpAny_loadPart_at hC ?_ | wp_step))
  refine ⟨rfl, codeAny_call_builtin_at (Code.quiet_builtin _ (by decide +kernel)) entry_typeCall (wpAny_check_type_call_sub hC (typeCall_any Nw hC hi hb hl (codeAny_mono hq fun res z q => ?_)))⟩
  rcases res with er | (v | _ | _ | _) <;> exact q
end
end Oxb
end PySem
namespace Thr
open PySem PySem.Spec PyProof.Rows L2
/-! ### an own error straight over a built-in one (B), whose __init__ is walked as a def -/
structure OxC (K : PySem.W.Frag) (C : Addr) (B : String) : Prop where
  cls : ∃ nm q N bs bm sn sub ab col dd k0 k1 k2 k3 k5 newId, K.lookup C = some (excClassObj nm q C N bs bm true sn sub ab col dd k0 k1 k2 k3 k5 newId) ∧ PySem.Oxb.NewOk newId bm ∧ PySem.Oxb.InitOk B bm ∧ PySem.Oxb.MroOk (.ref C :: bm)
  sa : PySem.W.findIn K (.ref C) "__setattr__" = some (some (.builtin "object.__setattr__"))
  exC : PySem.W.subIn K (.ref C) (.type "BaseException") = some true
  tyC : PySem.W.typeIn K (.ref C) = some (.type "type")
  kC : PySem.W.keepIn K (.ref C) = true
section
variable {X : Cx} {pins : List (Addr × Obj)} {σ : L2.St} {H : Hp} {s : Shared} {a C dx : Addr} {f : Str} {y : V} {u : Value} {fs : List (Str × V)} {Q : Unit → Shared → Prop} {E : Value → Shared → Prop} {A : Around} {B : String}
theorem ox_first (T : OxC X.K C B) (I : Inv X pins σ H s) (e : H a = some (exo a C none)) (hno : PySem.W.findIn X.K (.ref C) f = some none) (ry : RelV y u)
    (h : ∀ dx s1, H dx = none → dx ≠ a → Inv X pins σ (upd (upd H dx (exd dx [(f, y)])) a (exo a C (some dx))) s1 → Q () s1) : wpAny (model X.prog X.w) A (setAttr (.ref a) f u) Q E s := by
  obtain ⟨nm, q, N, bs, bm, sn, sub, ab, col, dd, k0, k1, k2, k3, k5, newId, hC, _, _, hm⟩ := T.cls
  have hcl : ∃ cd, PySem.W.clsIn X.K C = some cd ∧ cd.mro = .ref C :: bm ∧ cd.hasDict = true := by
    unfold PySem.W.clsIn
    rw [hC]
    exact ⟨_, rfl, rfl, rfl⟩
  obtain ⟨cd, hcd, em, ehd⟩ := hcl
  obtain ⟨t1, ho⟩ := exo_at I.hok e
  obtain ⟨h0, gs, dr, tn, os⟩ := s
  refine PySem.W.set_plain I.kIn (ox := { cls := .ref C, dict := none, data := .fields #[.ref t1, .none, .none, .none, .bool false, .none] }) (od := none) ⟨ho, rfl, rfl, trivial⟩ T.sa ?_
  refine PySem.Oxb.store_first I.kIn ho hcd (em ▸ hm) ehd hno (fun h1 t2 dx kp hbig hne hx hn => ?_)
  have fresh : H dx = none := I.hok.fresh hbig
  have offD : ∀ {b : Addr} {o : Obj}, h0.get? b = some o → b ≠ dx := fun z => Nat.ne_of_lt (Nat.lt_of_lt_of_le (Heap.lt_size z) hbig)
  have offA : ∀ {b : Addr}, H b = none → b ≠ a := fun {b} z1 z2 => by
    rw [z2, e] at z1
    cases z1
  have U : Un X.fs [] H (upd (upd H dx (exd dx [(f, y)])) a (exo a C (some dx))) h0 h1 :=
    ⟨fun b o z n _ _ => kp b o (offA n) z, fun b o z n _ _ => ⟨o.slots, kp b o (offA n) z⟩, fun b o z n _ => by rw [upd_ne (offA n), upd_ne (offD z)]; exact n,
      fun b o z _ => by
        by_cases hb : b = a
        · exact ⟨_, hb ▸ hx⟩
        · exact ⟨o, kp b o hb z⟩,
      fun b xs z => by rw [upd_ne (at_ne e z exo_tup), upd_ne (ne_of_none z fresh)]; exact z,
      fun b o v z => by rw [upd_ne (at_ne e z exo_frz), upd_ne (ne_of_none z fresh)]; exact z,
      fun b ps z => ⟨#[], by rw [upd_ne (at_ne e z exo_tbl), upd_ne (ne_of_none z fresh), z]; simp⟩⟩
  refine h dx _ fresh hne (I.un (t' := t2) U fun b o z => ?_)
  by_cases hb : b = a
  · subst hb
    rw [upd_same] at z
    cases z
    exact exo_ok hx
  rw [upd_ne hb] at z
  by_cases hd : b = dx
  · subst hd
    rw [upd_same] at z
    cases z
    exact exd_ok hn (relO_put (fs := []) ry fun _ => True.intro)
  rw [upd_ne hd] at z
  refine (I.hok b o z).stay (fun c v hc z2 => kp c v (fun z3 => ?_) z2) (fun c hc => by rw [upd_ne (at_ne e hc exo_own), upd_ne (ne_of_none hc fresh)]; exact hc) (fun c xs hc => by rw [upd_ne (at_ne e hc exo_tup), upd_ne (ne_of_none hc fresh)]; exact hc)
  rcases hc with hc | hc
  · exact hb (hc.symm.trans z3)
  · exact at_ne e hc exo_own z3
theorem ox_more (T : OxC X.K C B) (I : Inv X pins σ H s) (e : H a = some (exo a C (some dx))) (ed : H dx = some (exd dx fs)) (hl : fs.length ≤ 900) (hno : PySem.W.findIn X.K (.ref C) f = some none) (ry : RelV y u)
    (h : ∀ s1, Inv X pins σ (upd H dx (exd dx ((f, y) :: fs))) s1 → Q () s1) : wpAny (model X.prog X.w) A (setAttr (.ref a) f u) Q E s := by
  obtain ⟨nm, q, N, bs, bm, sn, sub, ab, col, dd, k0, k1, k2, k3, k5, newId, hC, _, _, hm⟩ := T.cls
  have hcl : ∃ cd, PySem.W.clsIn X.K C = some cd ∧ cd.mro = .ref C :: bm ∧ cd.hasDict = true := by
    unfold PySem.W.clsIn
    rw [hC]
    exact ⟨_, rfl, rfl, rfl⟩
  obtain ⟨cd, hcd, em, ehd⟩ := hcl
  obtain ⟨t1, ho⟩ := exo_at I.hok e
  obtain ⟨mA, hns, rel⟩ := exd_at I.hok ed
  have hw := within_of rel
  obtain ⟨h0, gs, dr, tn, os⟩ := s
  obtain ⟨oD, _, _, hoD, _, _⟩ := hns.count hw
  refine PySem.W.set_plain I.kIn (ox := { cls := .ref C, dict := some dx, data := .fields #[.ref t1, .none, .none, .none, .bool false, .none] }) (od := some oD) ⟨ho, rfl, rfl, hoD⟩ T.sa ?_
  refine PySem.Oxb.store_more I.kIn ho hns hw (by rw [List.length_map]; omega) hcd (em ▸ hm) ehd hno (fun h1 t2 kp hn => ?_)
  obtain ⟨o2, _, _, e2, _⟩ := id hn
  exact h _ (I.write (t' := t2) (x := dx) (e := dx) (o := exd dx ((f, y) :: fs)) (by rw [ed]; exact True.intro) (.inl rfl) kp ⟨o2, e2⟩ (exd_ok hn (relO_put ry rel)))
theorem ox_init {us : List Value} {Q : Value → Shared → Prop} (T : OxC X.K C B) (I : Inv X pins σ H s) (e : H a = some (exo a C none)) (hl : us.length ≤ sizeLine) (h : ∀ s1, Inv X pins σ H s1 → Q .none s1) :
    wpAny (model X.prog X.w) A (call (.builtin (B ++ ".__init__")) (.ref a :: us)) Q E s := by
  obtain ⟨nm, q, N, bs, bm, sn, sub, ab, col, dd, k0, k1, k2, k3, k5, newId, hC, _, FB, _⟩ := T.cls
  obtain ⟨t1, ho⟩ := exo_at I.hok e
  obtain ⟨h0, gs, dr, tn, os⟩ := s
  refine wpAny_call (PySem.Oxb.init_any FB (I.kIn _ _ hC) ho hl fun h1 t2 kp hx => ?_)
  have J := I.write (t' := tn) (x := a) (e := a) (o := exo a C none) (by rw [e]; exact True.intro) (.inl rfl) kp ⟨_, hx⟩ (exo_ok hx)
  have same : upd H a (exo a C none) = H := funext fun b => by
    by_cases hb : b = a
    · rw [hb, upd_same, e]
    · rw [upd_ne hb]
  rw [same] at J
  exact h _ J
end
/-- B.__init__(self, ..) -/
def tBI (K : PySem.W.Frag) (B : String) (ta : TA) : TE := fun σ H Q => ta σ H fun vs H1 => ∃ (a C : Addr) (ws : List V), vs = .ref a :: ws ∧ ws.length ≤ 1000 ∧ OxC K C B ∧ H1 a = some (exo a C none) ∧ Q .non H1
/-- self.f = e -/
def tOxs (K : PySem.W.Frag) (f : Str) (to te : TE) : TS := fun D σ H => te σ H fun y H1 => to σ H1 fun x H2 => ∃ (a C : Addr) (B : String), x = .ref a ∧ OxC K C B ∧ PySem.W.findIn K (.ref C) f = some none ∧
  ((H2 a = some (exo a C none) ∧ ∀ dx, H2 dx = none → dx ≠ a → D.nx σ (upd (upd H2 dx (exd dx [(f, y)])) a (exo a C (some dx)))) ∨
    ∃ (dx : Addr) (fs : List (Str × V)), H2 a = some (exo a C (some dx)) ∧ H2 dx = some (exd dx fs) ∧ fs.length ≤ 900 ∧ D.nx σ (upd H2 dx (exd dx ((f, y) :: fs))))
section
variable {X : Cx} {o e : Expr} {es : List Expr} {to te : TE} {ta : TA} {f : Str} {p p' p1 p2 pos : Pos} {B : String}
/-- B's own facts: the name, its type, its __init__ -/
structure BInit (K : PySem.W.Frag) (B : String) : Prop where
  boot : bootBuiltins (Str.ofString B) = some (.type B)
  ty : typeOf (.type B) = pure (.type "type")
  stub : Manifest.isStub B = false
  fnd : PySem.W.findCls K (.type B) (.type "type") "__init__" = some (.val (.builtin (B ++ ".__init__")))
  out : PySem.W.handedIn (.builtin (B ++ ".__init__")) = true
  nn : Str.ofString B ≠ "__name__"
  nd : (Str.ofString B == ("__debug__" : Str)) = false
theorem pe_binit {pl : Sem Bool} (b : BInit X.K B) (hg : Gl X (Str.ofString B)) (hm : X.mg (Str.ofString B) = none) (ha : PA X (e :: es) ta)
    (hc : eval (.Call (.Attribute (.Name (Str.ofString B) p1) "__init__" p2) (e :: es) [] pos) X.env = (do
      let ov ← eval (.Name (Str.ofString B) p1) X.env
      standAt p2.atName
      let (fn, first) ← holding [ov] (getMethod ov "__init__" pl)
      callWith pos fn first (backTo pos (starEach (e :: es) X.env)) (backToKw pos (keywordEach [] X.env))) := by rfl)
    (he : starEach (e :: es) X.env = (false, eval e X.env) :: starEach es X.env := by rfl) (hpl : (backTo pos (starEach es X.env)).any (·.1) = false := by rfl) :
    PE X (.Call (.Attribute (.Name (Str.ofString B) p1) "__init__" p2) (e :: es) [] pos) (tBI X.K B ta) := by
  refine ⟨fun pins s σ H Q I rd => ?_⟩
  refine PySem.W.methodCall_KW (ld_blt I hg hm b.boot ?_ b.nn b.nd) hc
  obtain ⟨m, fr⟩ := I.fr
  refine PySem.W.method_type fr I.ok.mod.kin b.ty b.stub b.fnd b.out ?_
  show wpAny _ _ (callWith pos (Value.builtin (B ++ ".__init__")) [] (backTo pos (starEach (e :: es) X.env)) []) _ _ _
  refine PyProof.Rows.callWith_method1 (thn (ha.run pos pins _ σ H _ (I.tok _) rd) fun us s1 ⟨vs, H1, I1, r1, a, C, ws, ev, hl, T, ea, q⟩ => ?_) he hpl
  subst ev
  cases r1 with
  | cons ra rs =>
    cases ra
    exact ox_init T I1 ea (by rw [← Paired.length rs, sizeLine_eq]; omega) fun s2 J => ⟨.non, H1, J, rfl, q⟩
theorem ps_oxs (ho : PE X o to) (he : PE X e te) (hs : swapsWith e (some (.Attribute o f p')) pos.line X.env = pure false := by rfl) : PS X (.Assign [.Attribute o f p'] e pos) (tOxs X.K f to te) := by
  refine ⟨fun pins s σ H D I rd => plainObj_wpAny_Assign_Attribute (thn (he.run pins s σ H _ I rd) fun v s1 ⟨y, H1, I1, r1, q1⟩ => thn (ho.run pins s1 σ H1 _ I1 q1) fun u s2 ⟨z, H2, I2, r2, a, C, B, ez, T, hno, q⟩ => ?_) hs⟩
  subst ez
  cases r2
  rcases q with ⟨ea, q⟩ | ⟨dx, fs, ea, ed, hl, q⟩
  · exact ox_first T I2 ea hno r1 fun dx s3 n ne J => ⟨σ, _, J, q dx n ne⟩
  · exact ox_more T I2 ea ed hl hno r1 fun s3 J => ⟨σ, _, J, q⟩
end
/-- C(e, ..) as a value: tracked from then on -/
def tMkV (C : Addr) (sp : Sp) (ta : TA) : TE := fun σ H Q => ta σ H fun vs H1 => vs.length ≤ 1000 ∧ ∀ a, H1 a = none → sp (.ref a :: vs) (upd H1 a (exo a C none))
  (fun v H2 => v = .non ∧ ∃ (d : Addr) (fs : List (Str × V)), H2 a = some (exo a C (some d)) ∧ H2 d = some (exd d fs) ∧ Q (.ref a) (upd (upd H2 a (exv a C d)) d (.xd fs))) (fun _ _ _ => False)
section
variable {X : Cx} {e : Expr} {es : List Expr} {ta : TA} {p pos : Pos} {B : String} {CX : CXT} {x : Str} {C fI : Addr} {k : Nat} {fd : FuncData} {ps : List Str} {sp : Sp}
/-- the exception that its __init__ has left, as a value -/
theorem inv_value {pins : List (Addr × Obj)} {σ : L2.St} {H : Hp} {s : Shared} {a d : Addr} {fs : List (Str × V)} (I : Inv X pins σ H s) (ea : H a = some (exo a C (some d))) (ed : H d = some (exd d fs)) :
    Inv X pins σ (upd (upd H a (exv a C d)) d (.xd fs)) s := by
  obtain ⟨t1, h1⟩ := exo_at I.hok ea
  obtain ⟨mA, h2, rel⟩ := exd_at I.hok ed
  obtain ⟨od, es', ep', h3, h4, _⟩ := id h2
  have nda : d ≠ a := fun z => by
    rw [z, h1] at h3
    have z2 := Option.some.inj h3
    subst z2
    cases h4
  have I1 := I.write (t' := s.toks) (x := a) (e := a) (o := exv a C d) (h' := s.heap) (by rw [ea]; exact True.intro) (.inl rfl) (fun _ _ _ z => z) ⟨_, h1⟩ (exv_ok h1 rfl rfl rfl)
  have ed1 : (upd H a (exv a C d)) d = some (exd d fs) := by
    rw [upd_ne nda]
    exact ed
  exact I1.write (t' := s.toks) (x := d) (e := d) (o := .xd fs) (h' := s.heap) (by rw [ed1]; exact True.intro) (.inl rfl) (fun _ _ _ z => z) ⟨_, h3⟩ ⟨mA, h2, rel⟩
theorem run_ox {pins : List (Addr × Obj)} {σ : L2.St} {H1 : Hp} {vs : List V} {us : List Value} {hp : Heap} {gs : Array GenState} {dr : Drawn} {tk : Nat} {os : OsState} {Qk : V → Hp → Prop} {G : Value → Shared → Prop} (T : OxC X.K C B) (iC : PySem.W.findIn X.K (.ref C) "__init__" = some (some (.ref fI)))
    (tI : PySem.W.typeIn X.K (.ref fI) = some (.type "function")) (F1 : FnOk X.prog X.w X.K X.mg X.base CX k fI fd ps sp) (hr : Room (k + 1) X.A) (hb : Binds X.K fd ps []) (hx : Passes CX X (fun _ _ _ => False)) (I1 : Inv X pins σ H1 ⟨hp, gs, dr, tk, os⟩) (r1 : Vals vs us) (hz : vs.length ≤ 1000)
    (q1 : sp (.ref (hp.objs.size + 1) :: vs) (upd H1 (hp.objs.size + 1) (exo (hp.objs.size + 1) C none)) Qk (fun _ _ _ => False))
    (fin : ∀ (kk : ∀ b o, hp.get? b = some o → ((hp.push (PySem.W.kdv_tup us)).push (PySem.HandSPX.excO C hp.objs.size)).get? b = some o)
      (I2 : Inv X pins σ (upd H1 (hp.objs.size + 1) (exo (hp.objs.size + 1) C none)) ⟨(hp.push (PySem.W.kdv_tup us)).push (PySem.HandSPX.excO C hp.objs.size), gs, dr, tk, os⟩) (v : V) (u : Value) (H2 : Hp) (s2 : Shared), s2.os = os → AllBare s2.gens →
      Un (frs X.stack) [] (upd H1 (hp.objs.size + 1) (exo (hp.objs.size + 1) C none)) H2 ((hp.push (PySem.W.kdv_tup us)).push (PySem.HandSPX.excO C hp.objs.size)) s2.heap → HOk X.prog X.w H2 s2.heap → RelV v u → Qk v H2 → u = .none ∧ G (.ref (hp.objs.size + 1)) s2) :
    wpAny (model X.prog X.w) X.A (call (.ref C) us) G X.xe ⟨hp, gs, dr, tk, os⟩ := by
  obtain ⟨nm, q, N, bs, bm, sn, sub, ab, col, dd, k0, k1, k2, k3, k5, newId, hC, Nw, _, _⟩ := T.cls
  have kk : ∀ b o, hp.get? b = some o → ((hp.push (PySem.W.kdv_tup us)).push (PySem.HandSPX.excO C hp.objs.size)).get? b = some o := fun b o z => Heap.get?_push_of_some _ (Heap.get?_push_of_some _ z)
  have hE : ((hp.push (PySem.W.kdv_tup us)).push (PySem.HandSPX.excO C hp.objs.size)).get? (hp.objs.size + 1) = some (PySem.HandSPX.excO C hp.objs.size) := by heap_get
  have I2 := I1.laid (t' := tk) (a := hp.objs.size + 1) (o := exo (hp.objs.size + 1) C none) kk (Nat.le_succ _) (exo_ok hE)
  have r2 : Vals (V.ref (hp.objs.size + 1) :: vs) (Value.ref (hp.objs.size + 1) :: us) := .cons rfl r1
  have hl : (Value.ref (hp.objs.size + 1) :: us ++ []).length = ps.length := by
    rw [List.append_nil, ← r2.length]
    exact F1.len _ _ _ _ q1
  have bd := hb _ (Value.ref (hp.objs.size + 1) :: us) I2.kIn hl
  rw [List.append_nil] at bd
  refine wpAny_call (PySem.Oxb.call_any Nw (I1.kIn _ _ hC) (PySem.W.looks_findIn I1.kIn iC) (fun self => PySem.W.bind_fn I1.kIn self tI) (by rw [← Paired.length r1, sizeLine_eq]; omega)
    (codeAny_mono (F1.run _ X.stack _ _ ⟨Value.ref (hp.objs.size + 1) :: us, []⟩ (Value.ref (hp.objs.size + 1) :: us) _ _ (fun _ _ _ => False) (hr.make C us []) (I2.env0.make C us []) bd r2 q1) fun res s2 hq => ?_))
  cases res with
  | error er => exact hx pins σ _ _ er s2 I2 hq
  | ok fl =>
    cases fl with
    | ret u =>
      obtain ⟨v, H2, o2, b2, un2, ok2, rv, qv⟩ := hq
      exact fin kk I2 v u H2 s2 o2 b2 un2 ok2 rv qv
    | next => exact hq.elim
    | brk => exact hq.elim
    | cont => exact hq.elim
/-- raise C(e, ..) -/
theorem pmk_ox (T : OxC X.K C B) (iC : PySem.W.findIn X.K (.ref C) "__init__" = some (some (.ref fI))) (tI : PySem.W.typeIn X.K (.ref fI) = some (.type "function"))
    (F1 : FnOk X.prog X.w X.K X.mg X.base CX k fI fd ps sp) (hr : Room (k + 1) X.A) (hb : Binds X.K fd ps []) (hx : Passes CX X (fun _ _ _ => False)) (hg : Gl X x) (hm : X.mg x = some (.ref C)) (ha : PA X (e :: es) ta)
    (hdb : (x == ("__debug__" : Str)) = false := by decide) (he : starEach (e :: es) X.env = (false, eval e X.env) :: starEach es X.env := by rfl) (hpl : (backTo pos (starEach es X.env)).any (·.1) = false := by rfl) :
    PMk X (.Call (.Name x p) (e :: es) [] pos) (tMkO C sp [] ta) := by
  intro pins s σ H Q I rd
  refine wpAny_Call_Name_kw (ld_glob I hg hm ?_ hdb)
  refine PySem.W.callWith_K (h₀ := X.base) I.ok.mod.kin T.kC (thn (ha.run pos pins s σ H _ I rd) fun us s1 ⟨vs, H1, I1, r1, hz, q1⟩ => ⟨I1.kIn, ?_⟩) he hpl
  show wpAny _ _ (call (.ref C) us) _ _ _
  obtain ⟨hp, gs, dr, tk, os⟩ := s1
  have q2 := q1 (hp.objs.size + 1) (I1.hok.fresh (Nat.le_succ _))
  rw [List.append_nil] at q2
  refine run_ox T iC tI F1 hr hb hx I1 r1 hz q2 (fun kk I2 v u H2 s2 o2 b2 un2 ok2 rv qv => ?_)
  obtain ⟨ev, d, fs, ea, ed, hd1, q3⟩ := qv
  subst ev
  obtain ⟨h2, g2, d2, t2, os2⟩ := s2
  exact ⟨rv, mk_end (raises_own T.exC T.tyC) I1 (Nat.le_succ _) kk un2 ok2 o2 b2 ea ed hd1 q3⟩
theorem pe_mkv (T : OxC X.K C B) (iC : PySem.W.findIn X.K (.ref C) "__init__" = some (some (.ref fI))) (tI : PySem.W.typeIn X.K (.ref fI) = some (.type "function"))
    (F1 : FnOk X.prog X.w X.K X.mg X.base CX k fI fd ps sp) (hr : Room (k + 1) X.A) (hb : Binds X.K fd ps []) (hx : Passes CX X (fun _ _ _ => False)) (hg : Gl X x) (hm : X.mg x = some (.ref C)) (ha : PA X (e :: es) ta)
    (hdb : (x == ("__debug__" : Str)) = false := by decide) (he : starEach (e :: es) X.env = (false, eval e X.env) :: starEach es X.env := by rfl) (hpl : (backTo pos (starEach es X.env)).any (·.1) = false := by rfl) :
    PE X (.Call (.Name x p) (e :: es) [] pos) (tMkV C sp ta) := by
  refine ⟨fun pins s σ H Q I rd => ?_⟩
  refine wpAny_Call_Name_kw (ld_glob I hg hm ?_ hdb)
  refine PySem.W.callWith_K (h₀ := X.base) I.ok.mod.kin T.kC (thn (ha.run pos pins s σ H _ I rd) fun us s1 ⟨vs, H1, I1, r1, hz, q1⟩ => ⟨I1.kIn, ?_⟩) he hpl
  show wpAny _ _ (call (.ref C) us) _ _ _
  obtain ⟨hp, gs, dr, tk, os⟩ := s1
  have q2 := q1 (hp.objs.size + 1) (I1.hok.fresh (Nat.le_succ _))
  refine run_ox T iC tI F1 hr hb hx I1 r1 hz q2 (fun kk I2 v u H2 s2 o2 b2 un2 ok2 rv qv => ?_)
  obtain ⟨ev, d, fs, ea, ed, q3⟩ := qv
  subst ev
  exact ⟨rv, .ref (hp.objs.size + 1), _, inv_value (I2.call' (ch := []) o2 un2 ok2 b2 (fun _ z => nomatch z)) ea ed, rfl, q3⟩
end
/-! ### the built-in errors that own ones stand under -/
section
open PySem.Oxb
theorem cont_obj {C : Addr} {l : List Value} (h : l.contains (.type "object") = true) : (Value.ref C :: l).contains (.type "object") = true := by
  rw [List.contains_cons, h, Bool.or_true]
theorem new_VE : NewOk "ValueError.__new__" [.type "ValueError", .type "Exception", .type "BaseException", .type "object"] := ⟨_, _, _, PySem.F.excBase_ValueError, by decide +kernel, by decide +kernel, by decide +kernel⟩
theorem init_VE : InitOk "ValueError" [.type "ValueError", .type "Exception", .type "BaseException", .type "object"] :=
  ⟨PySem.F.excBase_ValueError.init.plain, PySem.F.excBase_ValueError.initEntry, PySem.F.excBase_ValueError.initKind, PySem.F.excBase_ValueError.initSplit, PySem.F.excBase_ValueError.initRow, PySem.F.excBase_ValueError.noStar, by decide +kernel⟩
theorem mro_VE (C : Addr) : MroOk (.ref C :: [.type "ValueError", .type "Exception", .type "BaseException", .type "object"]) :=
  ⟨fun self => by rw [refuseLoop_ref]; exact PySem.F.store_ValueError.passes self, cont_obj (by decide +kernel), rfl⟩
theorem new_KE : NewOk "LookupError.__new__" [.type "KeyError", .type "LookupError", .type "Exception", .type "BaseException", .type "object"] := ⟨_, _, _, PySem.F.excBase_LookupError, by decide +kernel, by decide +kernel, by decide +kernel⟩
theorem init_KE : InitOk "KeyError" [.type "KeyError", .type "LookupError", .type "Exception", .type "BaseException", .type "object"] where
  plain := by decide +kernel
  entry := entryFor_alias (id' := "BaseException.__init__") (by rw [fastTable_eq_tree]; kernel_rfl)
    (by first | rfl | decide +kernel) (by decide +kernel) (by rw [fastTable_eq_tree]; kernel_rfl)
  kind := by kernel_rfl
  split := by kernel_rfl
  row := by kernel_rfl
  star := by decide +kernel
  has := by decide +kernel
theorem mro_KE (C : Addr) : MroOk (.ref C :: [.type "KeyError", .type "LookupError", .type "Exception", .type "BaseException", .type "object"]) :=
  ⟨fun self => by rw [refuseLoop_ref]; kernel_rfl, cont_obj (by decide +kernel), rfl⟩
end
/-! ### further built-in errors that own ones stand under -/
section
open PySem.Oxb
theorem new_LE : NewOk "LookupError.__new__" [.type "LookupError", .type "Exception", .type "BaseException", .type "object"] := ⟨_, _, _, PySem.F.excBase_LookupError, by decide +kernel, by decide +kernel, by decide +kernel⟩
theorem init_LE : InitOk "LookupError" [.type "LookupError", .type "Exception", .type "BaseException", .type "object"] :=
  ⟨PySem.F.excBase_LookupError.init.plain, PySem.F.excBase_LookupError.initEntry, PySem.F.excBase_LookupError.initKind, PySem.F.excBase_LookupError.initSplit, PySem.F.excBase_LookupError.initRow, PySem.F.excBase_LookupError.noStar, by decide +kernel⟩
theorem mro_LE (C : Addr) : MroOk (.ref C :: [.type "LookupError", .type "Exception", .type "BaseException", .type "object"]) :=
  ⟨fun self => by rw [refuseLoop_ref]; kernel_rfl, cont_obj (by decide +kernel), rfl⟩
theorem new_IE : NewOk "IndexError.__new__" [.type "IndexError", .type "LookupError", .type "Exception", .type "BaseException", .type "object"] := ⟨_, _, _, PySem.F.excBase_IndexError, by decide +kernel, by decide +kernel, by decide +kernel⟩
theorem init_IE : InitOk "IndexError" [.type "IndexError", .type "LookupError", .type "Exception", .type "BaseException", .type "object"] :=
  ⟨PySem.F.excBase_IndexError.init.plain, PySem.F.excBase_IndexError.initEntry, PySem.F.excBase_IndexError.initKind, PySem.F.excBase_IndexError.initSplit, PySem.F.excBase_IndexError.initRow, PySem.F.excBase_IndexError.noStar, by decide +kernel⟩
theorem mro_IE (C : Addr) : MroOk (.ref C :: [.type "IndexError", .type "LookupError", .type "Exception", .type "BaseException", .type "object"]) :=
  ⟨fun self => by rw [refuseLoop_ref]; kernel_rfl, cont_obj (by decide +kernel), rfl⟩
theorem new_RE : NewOk "RuntimeError.__new__" [.type "RuntimeError", .type "Exception", .type "BaseException", .type "object"] := ⟨_, _, _, PySem.F.excBase_RuntimeError, by decide +kernel, by decide +kernel, by decide +kernel⟩
theorem init_RE : InitOk "RuntimeError" [.type "RuntimeError", .type "Exception", .type "BaseException", .type "object"] :=
  ⟨PySem.F.excBase_RuntimeError.init.plain, PySem.F.excBase_RuntimeError.initEntry, PySem.F.excBase_RuntimeError.initKind, PySem.F.excBase_RuntimeError.initSplit, PySem.F.excBase_RuntimeError.initRow, PySem.F.excBase_RuntimeError.noStar, by decide +kernel⟩
theorem mro_RE (C : Addr) : MroOk (.ref C :: [.type "RuntimeError", .type "Exception", .type "BaseException", .type "object"]) :=
  ⟨fun self => by rw [refuseLoop_ref]; kernel_rfl, cont_obj (by decide +kernel), rfl⟩
theorem new_AE : NewOk "ArithmeticError.__new__" [.type "ArithmeticError", .type "Exception", .type "BaseException", .type "object"] := ⟨_, _, _, PySem.F.excBase_ArithmeticError, by decide +kernel, by decide +kernel, by decide +kernel⟩
theorem init_AE : InitOk "ArithmeticError" [.type "ArithmeticError", .type "Exception", .type "BaseException", .type "object"] :=
  ⟨PySem.F.excBase_ArithmeticError.init.plain, PySem.F.excBase_ArithmeticError.initEntry, PySem.F.excBase_ArithmeticError.initKind, PySem.F.excBase_ArithmeticError.initSplit, PySem.F.excBase_ArithmeticError.initRow, PySem.F.excBase_ArithmeticError.noStar, by decide +kernel⟩
theorem mro_AE (C : Addr) : MroOk (.ref C :: [.type "ArithmeticError", .type "Exception", .type "BaseException", .type "object"]) :=
  ⟨fun self => by rw [refuseLoop_ref]; kernel_rfl, cont_obj (by decide +kernel), rfl⟩
theorem new_OE : NewOk "OverflowError.__new__" [.type "OverflowError", .type "ArithmeticError", .type "Exception", .type "BaseException", .type "object"] := ⟨_, _, _, PySem.F.excBase_OverflowError, by decide +kernel, by decide +kernel, by decide +kernel⟩
theorem init_OE : InitOk "OverflowError" [.type "OverflowError", .type "ArithmeticError", .type "Exception", .type "BaseException", .type "object"] :=
  ⟨PySem.F.excBase_OverflowError.init.plain, PySem.F.excBase_OverflowError.initEntry, PySem.F.excBase_OverflowError.initKind, PySem.F.excBase_OverflowError.initSplit, PySem.F.excBase_OverflowError.initRow, PySem.F.excBase_OverflowError.noStar, by decide +kernel⟩
theorem mro_OE (C : Addr) : MroOk (.ref C :: [.type "OverflowError", .type "ArithmeticError", .type "Exception", .type "BaseException", .type "object"]) :=
  ⟨fun self => by rw [refuseLoop_ref]; kernel_rfl, cont_obj (by decide +kernel), rfl⟩
end
end Thr
namespace PySem
namespace Oxb
open PySem.W PySem.Calls PyProof.Rows PySem.HandSPX
section
variable {prog : Program} {w : World} {A : Around} {E : Value → Shared → Prop} {R : Result → Shared → Prop} {hp : Heap} {ga : Array GenState} {dw : Drawn} {tn : Nat} {os : OsState}
variable {n1 n2 : Str} {C N : Addr} {b1 bm : List Value} {hd : Bool} {s1 : List Str} {s2 : List Value} {ab : Bool} {co : Option Bool} {d1 : Option Addr} {k0 k1 k2 k3 k5 : Option Value} {B newId : String}
theorem new_kw (Nw : NewOk newId bm) {more : List Value} {kw : List (Str × Value)} (hC : hp.get? C = some (excClassObj n1 n2 C N b1 bm hd s1 s2 ab co d1 k0 k1 k2 k3 k5 newId)) (hl : more.length ≤ sizeLine)
    (hq : R (.ok (.ret (.ref (hp.objs.size + 1)))) ⟨(hp.push { cls := .type "tuple", data := .seq more.toArray }).push { cls := .ref C, data := .fields #[.ref hp.objs.size, .none, .none, .none, .bool false, .none] }, ga, dw, tn, os⟩) :
    codeAny (model prog w) A (.builtin newId ⟨.ref C :: more, kw⟩) R ⟨hp, ga, dw, tn, os⟩ := by
  obtain ⟨Bn, initn, bn, FB, c1, c2, c3⟩ := Nw.ex
  have e0 := FB.ends
  have e1 : (Value.ref C :: bm).contains (.type Bn) = true := by
    rw [List.contains_cons, c1, Bool.or_true]
  have e2 : (Value.ref C :: bm).contains (.type "AttributeError") = false := by
    rw [List.contains_cons, c2]
    rfl
  have e3 : (Value.ref C :: bm).contains (.type "NameError") = false := by
    rw [List.contains_cons, c3]
    rfl
  refine codeAny_builtinAt FB.entry ?_
  unfold Builtin.«BaseException.__new__»
  refine wpAt_bind ?_
  show wpAt _ _ _ (stack >>= _) _ _ _
  refine wpAt_bind (wpAt_stack fun p below => wpAt_of_wpAny ?_)
  wp_walk
  refine wpAt_of_wpAny ?_
  rw [FB.owner]
  repeat (first | with_reducible refine wpAny_madeHere_exc FB.canon hC ?_ | with_reducible refine wpAny_loadPart_at hC ?_ | (with_reducible refine wpAny_isSubtype_exc hC ?_; first | rw [e1] | rw [e2] | rw [e3]) | wp_step)
  show R _ _
  rw [Heap.size_push]
  exact hq
theorem check_kw (Nw : NewOk newId bm) {M : Model} {more : List Value} {kw : List (Str × Value)} {Q : Unit → Shared → Prop} (hC : hp.get? C = some (excClassObj n1 n2 C N b1 bm hd s1 s2 ab co d1 k0 k1 k2 k3 k5 newId)) (q : Q () ⟨hp, ga, dw, tn, os⟩) :
    wpAny M A (checkBuiltinCall newId ⟨.ref C :: more, kw⟩) Q E ⟨hp, ga, dw, tn, os⟩ := by
  obtain ⟨Bn, initn, bn, FB, c1, c2, c3⟩ := Nw.ex
  have e1 : (Value.ref C :: bm).contains (.type Bn) = true := by
    rw [List.contains_cons, c1, Bool.or_true]
  have e0 := FB.noStar
  simp only [checkBuiltinCall, FB.newKind, FB.newSplit, FB.newRow]
  repeat (first | refine wpAny_loadPart_at hC ?_ | (refine wpAny_isSubtype_exc hC ?_; rw [e1]) | refine wpAny_staticBase_exc hC ?_ | refine wpAny_madeBy_exc hC ?_ | simp only [bne_self_eq_false, Bool.false_eq_true, if_false] | wp_step)
  exact q
theorem typeCall_kw (Nw : NewOk newId bm) {more : List Value} {kw : List (Str × Value)} {fI : Addr} {Q : Fin → Shared → Prop} (hC : hp.get? C = some (excClassObj n1 n2 C N b1 bm hd s1 s2 ab co d1 k0 k1 k2 k3 k5 newId))
    (hi : W.Looks (model prog w) hp (typeLookup (.ref C) "__init__") (some (.ref fI))) (hb : ∀ self, W.Looks (model prog w) hp (bindSpecial (.ref fI) self) (.ref fI, [self])) (hl : more.length ≤ sizeLine)
    (hq : codeAny (model prog w) A (.call (.ref fI) ⟨.ref (hp.objs.size + 1) :: more, kw⟩) (fun res z => match res with | .ok (.ret v) => v = .none ∧ Q (.done (.ret (.ref (hp.objs.size + 1)))) z | .ok _ => False | .error er => E er z) ⟨(hp.push (W.kdv_tup more)).push (excO C hp.objs.size), ga, dw, tn, os⟩) :
    wpAny (model prog w) A (Builtin.«type.__call__» ⟨.ref C :: more, kw⟩) Q E ⟨hp, ga, dw, tn, os⟩ := by
  obtain ⟨Bn, initn, bn, FB, _, _, _⟩ := id Nw.ex
  repeat (first | with_reducible refine wpAny_loadPart_at hC ?_ | with_reducible refine wpAny_madeBy_exc hC ?_ | wp_step)
  refine codeAny_call_builtin_code (Code.quiet_builtin _ FB.quiet) (check_kw Nw hC ?_)
  refine new_kw Nw hC hl ?_
  show wpAny _ _ _ _ _ _
  have up : ∀ b o, hp.get? b = some o → ((hp.push (W.kdv_tup more)).push (excO C hp.objs.size)).get? b = some o := fun b o z => Heap.get?_push_of_some _ (Heap.get?_push_of_some _ z)
  have hC2 := up _ _ hC
  have hE : ((hp.push (W.kdv_tup more)).push (excO C hp.objs.size)).get? (hp.objs.size + 1) = some (excO C hp.objs.size) := by heap_get
  have self_in : (Value.ref C :: bm).contains (.ref C) = true := by simp
  have l1 := hi.keeps up
  have l2 := (hb (.ref (hp.objs.size + 1))).keeps up
  unfold isInstance
  repeat (first | with_reducible refine wpAny_loadPart_at hE ?_ | (with_reducible refine wpAny_isSubtype_exc hC2 ?_; rw [self_in]) | wp_step)
  show wpAny _ _ (typeLookup (.ref C) _) _ _ _
  refine l1.at (wpAny_holding (wpAny_bind (l2.at ?_)))
  refine wpAny_bind (wpAny_call (codeAny_mono hq fun res z q => ?_))
  rcases res with er | (v | _ | _ | _) <;> first | exact q | exact q.elim | skip
  obtain ⟨rfl, q⟩ := q
  first
    | exact wpAny_pure (wpAny_pure q)
    | (wp_walk; exact q)
theorem call_kw (Nw : NewOk newId bm) {more : List Value} {kw : List (Str × Value)} {fI : Addr} (hC : hp.get? C = some (excClassObj n1 n2 C N b1 bm hd s1 s2 ab co d1 k0 k1 k2 k3 k5 newId))
    (hi : W.Looks (model prog w) hp (typeLookup (.ref C) "__init__") (some (.ref fI))) (hb : ∀ self, W.Looks (model prog w) hp (bindSpecial (.ref fI) self) (.ref fI, [self])) (hl : more.length ≤ sizeLine)
    (hq : codeAny (model prog w) (A.under (.builtin "type.__call__" ⟨.ref C :: more, kw⟩)) (.call (.ref fI) ⟨.ref (hp.objs.size + 1) :: more, kw⟩) (W.InitBack (hp.objs.size + 1) R) ⟨(hp.push (W.kdv_tup more)).push (excO C hp.objs.size), ga, dw, tn, os⟩) :
    codeAny (model prog w) A (.call (.ref C) ⟨more, kw⟩) R ⟨hp, ga, dw, tn, os⟩ := by
  have g1 := tc_lookup
  have g2 := tc_bind (.ref C)
  have hty : (⟨hp, ga, dw, tn, os⟩ : Shared).TypeIs (.ref C) "type" := ⟨_, hC, rfl⟩
  refine codeAny_of_tree ?_
  show wpAny _ _ (callAny (.ref C) _) _ _ _
  repeat (any_goals (first | assumption | with_reducible refine wpAny_loadPart_at hC ?_ | wp_step))
  refine ⟨rfl, codeAny_call_builtin_at (Code.quiet_builtin _ (by decide +kernel)) entry_typeCall (wpAny_check_type_call_sub hC (typeCall_kw Nw hC hi hb hl (codeAny_mono hq fun res z q => ?_)))⟩
  rcases res with er | (v | _ | _ | _) <;> exact q
end
end Oxb
end PySem
namespace Thr
open PySem PySem.Spec PyProof.Rows L2
/-! ### C(k=e, ..) as a value -/
def tMkVK (C : Addr) (sp : Sp) (gV : List V → List V → List V) (m : Nat) (tk : TA) : TE := fun σ H Q => tk σ H fun zs H1 => zs.length = m ∧ ∀ a, H1 a = none → sp (gV [.ref a] zs) (upd H1 a (exo a C none))
  (fun v H2 => v = .non ∧ ∃ (d : Addr) (fs : List (Str × V)), H2 a = some (exo a C (some d)) ∧ H2 d = some (exd d fs) ∧ Q (.ref a) (upd (upd H2 a (exv a C d)) d (.xd fs))) (fun _ _ _ => False)
section
variable {X : Cx} {kws : List Keyword} {tk : TA} {p pos : Pos} {B : String} {CX : CXT} {x : Str} {C fI : Addr} {k : Nat} {fd : FuncData} {ps ks : List Str} {sp : Sp} {g : List Value → List Value → List Value} {gV : List V → List V → List V}
theorem pe_mkvK (T : OxC X.K C B) (iC : PySem.W.findIn X.K (.ref C) "__init__" = some (some (.ref fI))) (tI : PySem.W.typeIn X.K (.ref fI) = some (.type "function"))
    (F1 : FnOk X.prog X.w X.K X.mg X.base CX k fI fd ps sp) (hr : Room (k + 1) X.A) (hb : KBn X.K fd ps 1 ks g gV) (hx : Passes CX X (fun _ _ _ => False)) (hg : Gl X x) (hm : X.mg x = some (.ref C)) (hkw : PK X kws tk)
    (hall : (backToKw pos (keywordEach kws X.env)).all (·.1.isSome) = true := by rfl) (hks : (backToKw pos (keywordEach kws X.env)).filterMap (·.1) = ks := by rfl) (hdb : (x == ("__debug__" : Str)) = false := by decide)
    (hpl : ((backTo pos (starEach [] X.env)).any (·.1) || (backToKw pos (keywordEach kws X.env)).any (·.1.isNone)) = false := by rfl) :
    PE X (.Call (.Name x p) [] kws pos) (tMkVK C sp gV ks.length tk) := by
  refine ⟨fun pins s σ H Q I rd => wpAny_Call_Name_kw (ld_glob I hg hm ?_ hdb)⟩
  refine PySem.W.callWith_KW0 (h₀ := X.base) I.ok.mod.kin T.kC hall ?_ hpl
  refine thn (hkw.run pos pins s σ H _ I rd) fun ws s1 ⟨zs, H1, I1, rz, l2, q1⟩ => ⟨I1.kIn, ?_⟩
  rw [hks]
  show wpAny _ _ (call (.ref C) [] (ks.zip ws)) _ _ _
  obtain ⟨hp, gs, dr, tk, os⟩ := s1
  have q2 := q1 (hp.objs.size + 1) (I1.hok.fresh (Nat.le_succ _))
  obtain ⟨nm, q, N, bs, bm, sn, sub, ab, col, dd, k0, k1, k2, k3, k5, newId, hC, Nw, _, _⟩ := T.cls
  have kk : ∀ b o, hp.get? b = some o → ((hp.push (PySem.W.kdv_tup [])).push (PySem.HandSPX.excO C hp.objs.size)).get? b = some o := fun b o z => Heap.get?_push_of_some _ (Heap.get?_push_of_some _ z)
  have hE : ((hp.push (PySem.W.kdv_tup [])).push (PySem.HandSPX.excO C hp.objs.size)).get? (hp.objs.size + 1) = some (PySem.HandSPX.excO C hp.objs.size) := by heap_get
  have I2 := I1.laid (t' := tk) (a := hp.objs.size + 1) (o := exo (hp.objs.size + 1) C none) kk (Nat.le_succ _) (exo_ok hE)
  have rs : Vals [V.ref (hp.objs.size + 1)] [Value.ref (hp.objs.size + 1)] := .cons rfl .nil
  have r2 := hb.rel rs rz
  refine wpAny_call (PySem.Oxb.call_kw (more := []) (kw := ks.zip ws) Nw (I1.kIn _ _ hC) (PySem.W.looks_findIn I1.kIn iC) (fun self => PySem.W.bind_fn I1.kIn self tI) (by decide)
    (codeAny_mono (F1.run _ X.stack _ _ ⟨[Value.ref (hp.objs.size + 1)], ks.zip ws⟩ (g [Value.ref (hp.objs.size + 1)] ws) (gV [V.ref (hp.objs.size + 1)] zs) _ (fun _ _ _ => False) (hr.make C [] _) (I2.env0.make C [] _) (hb.to _ _ ws I2.kIn rfl (rz.length.symm.trans l2)) r2 q2) fun res s2 hq => ?_))
  cases res with
  | error er => exact hx pins σ _ _ er s2 I2 hq
  | ok fl =>
    cases fl with
    | ret u =>
      obtain ⟨v, H2, o2, b2, un2, ok2, rv, ev, d, fs, ea, ed, q3⟩ := hq
      subst ev
      exact ⟨rv, .ref (hp.objs.size + 1), _, inv_value (I2.call' (ch := []) o2 un2 ok2 b2 (fun _ z => nomatch z)) ea ed, rfl, q3⟩
    | next => exact hq.elim
    | brk => exact hq.elim
    | cont => exact hq.elim
end
/-! ### defs that make texts of lists and tuples: they run where no such text is under way -/
structure FnG (P : Program) (w : World) (K : PySem.W.Frag) (mg : Str → Option Value) (base : Heap) (k : Nat) (f : Addr) (fd : FuncData) (qs : List Str) (sp : Sp) : Prop where
  size : ∀ xs G R Z, sp xs G R Z → xs.length = qs.length
  goes : ∀ (B : Around) (up : List Env) (t : Shared) (G : Hp) (ar : Args) (ws : List Value) (xs : List V) (R : VK) (Z : XK), B.guards = some [] → Room k B → Env0 P w K mg base B up t G →
    BindsTo t fd ar (qs.zip ws) → Vals xs ws → sp xs G R Z → codeAny (model P w) B (.call (.ref f) ar) (CR CX0 up P w G t R Z) t
section
variable {P : Program} {w : World} {K : PySem.W.Frag} {mg : Str → Option Value} {base : Heap}
theorem fng_of {x qual : Str} {st : Stmt} {f : Addr} {fd : FuncData} {N qs : List Str} {k : Nat} {sp : Sp} (F : L2.Fun K x qual st f fd) (S : FnScope N qs (defScope st)) (size : ∀ xs G R Z, sp xs G R Z → xs.length = qs.length)
    (hb : ∀ (cv : Value) (B : Around) (up : List Env) (t : Shared) (G : Hp) (xs : List V) (R : VK) (Z : XK), (B.deeper (envOfC qual (defScope st) t.heap.objs.size f cv)).guards = some [] → Room k (B.deeper (envOfC qual (defScope st) t.heap.objs.size f cv)) → sp xs G R Z →
      ∃ d, PSs (cxOf CX0 P w K mg base N qual (defScope st) f cv B up t G Z).nox (defBody st) d ∧ d { nx := fun _ G' => R .non G', rt := R } (start N xs) G) : FnG P w K mg base (k + 1) f fd qs sp := by
  obtain ⟨oc, od, kV, doc, pm, an, cv, ct, osl, rfl, at_, co⟩ := F.ex
  refine ⟨size, fun B up t G ar ws xs R Z hg rm e0 bt rel hsp => ?_⟩
  have keepB : ∀ b o, base.get? b = some o → t.heap.get? b = some o := fun b o e => (e0.bs b o e).1
  have inT : K.In t.heap := e0.mod.kin.keeps keepB
  have noL : t.heap.NoLimit := e0.mod.nolimit.keeps keepB
  have kinds : ∀ y ∈ qs.zip ws, (defScope st).names.lookup y.1 = some .local ∨ ((defScope st).names.lookup y.1 = some .cell ∧ ((cellsFrom (t.heap.objs.size + 1) (defScope st).names []).lookup y.1).isSome = true) := by
    rintro ⟨n, v⟩ hy
    rcases S.par n (List.of_mem_zip hy).1 with z | z
    · exact .inl z
    · exact .inr ⟨z, PySem.W.cellsFrom_some _ _ _ (.inl z)⟩
  refine codeAny_call_function rm.depth (inT _ _ at_) rfl S.co S.gen rfl (PySem.W.codeRec_of inT co) (bt _ _ _ _ ?_)
  refine wpAny_newFunctionEnv_cells S.kind kinds fun en hen t1 y => ?_
  subst hen
  refine ⟨noL.keeps y.toInCall.keep, codeAny_func ?_⟩
  obtain ⟨d, hd, hq⟩ := hb cv B up t G xs R Z hg (rm.deeper _) hsp
  have J0 : Inv (cxOf CX0 P w K mg base N qual (defScope st) f cv B up t G Z) [] (start N xs) G t1 := inv_start S rm.hd e0 (size _ _ _ _ hsp) rel y
  refine wpAny_mono (hd.nox.run [] t1 (start N xs) G _ J0 hq) (fun out t' hs => ?_) fun _ _ hs => hs
  cases out with
  | next =>
    obtain ⟨_, G', J, z⟩ := hs
    exact ⟨.non, G', J.os, J.bare, J.base, J.hok, rfl, z⟩
  | ret u =>
    obtain ⟨v, _, G', J, rv, z⟩ := hs
    exact ⟨v, G', J.os, J.bare, J.base, J.hok, rv, z⟩
  | brk =>
    obtain ⟨_, _, _, z⟩ := hs
    exact z.elim
  | cont =>
    obtain ⟨_, _, _, z⟩ := hs
    exact z.elim
end
/-- such a def under its name -/
structure CalG (P : Program) (w : World) (K : PySem.W.Frag) (mg : Str → Option Value) (base : Heap) (k : Nat) (x : Str) (sp : Sp) : Prop where
  ex : ∃ (f : Addr) (fd : FuncData) (qs : List Str), FnG P w K mg base k f fd qs sp ∧ mg x = some (.ref f) ∧ PySem.W.keepIn K (.ref f) = true ∧ Binds K fd qs []
section
variable {X : Cx} {k j : Nat} {x : Str} {sp : Sp} {p pos : Pos} {e : Expr} {es : List Expr} {t : TA}
theorem pe_cG (c : CalG X.prog X.w X.K X.mg X.base k x sp) (hg : X.A.guards = some []) (hr : Room j X.A) (hk : k ≤ j) (gl : Gl X x) (ha : PA X (e :: es) t) (hdb : (x == ("__debug__" : Str)) = false := by decide)
    (he : starEach (e :: es) X.env = (false, eval e X.env) :: starEach es X.env := by rfl) (hpl : (backTo pos (starEach es X.env)).any (·.1) = false := by rfl) : PE X (.Call (.Name x p) (e :: es) [] pos) (tCall sp [] C8.E0 t) := by
  obtain ⟨f, fd, qs, F, hm, kp, b⟩ := c.ex
  refine ⟨fun pins s σ H Q I h => wpAny_Call_Name_kw (ld_glob I gl hm ?_ hdb)⟩
  refine PySem.W.callWith_K (h₀ := X.base) I.ok.mod.kin kp (thn (ha.run pos pins s σ H _ I h) fun us s1 ⟨vs, H1, I1, r, q⟩ => ⟨I1.kIn, ?_⟩) he hpl
  have q2 : sp vs H1 Q C8.E0 := by
    have q3 : sp (vs ++ []) H1 Q C8.E0 := q
    rw [List.append_nil] at q3
    exact q3
  have hl : us.length = qs.length := by
    rw [← r.length]
    exact F.size _ _ _ _ q2
  have bb := b s1 us I1.kIn (by rw [List.append_nil]; exact hl)
  rw [List.append_nil] at bb
  refine wpAny_call (codeAny_mono (F.goes X.A X.stack s1 H1 ⟨us, []⟩ us vs Q C8.E0 hg (hr.mono hk) I1.env0 bb r q2) fun res s' hq => ?_)
  cases res with
  | error er => exact hq.elim
  | ok fl =>
    cases fl with
    | ret u => exact I1.after hq
    | next => exact hq.elim
    | brk => exact hq.elim
    | cont => exact hq.elim
/-- repr of data -/
def rReprD (K : PySem.W.Frag) : List V → Hp → VK → Prop := fun xs H Q => ∃ (v : V) (d : PyData), xs = [v] ∧ Dp K H v d ∧ d.showable = true ∧ d.hasDict = false ∧ d.depth ≤ 100 ∧ d.shown.length ≤ sizeLine ∧ Q (.str d.shown) H
theorem cr_reprD (hg : X.A.guards = some []) (hr : Room j X.A) : CallR X (.builtin "repr") (rReprD X.K) := by
  intro pins s σ H xs us Q I r h
  obtain ⟨v, d, rfl, hd, hs, hn, hp, hz, q⟩ := h
  cases r with
  | cons r1 rr =>
    cases rr
    have un := hr.un
    cases hd with
    | non =>
      cases (show _ = Value.none from r1)
      exact PySem.P.repr_of_none ⟨.str "None", H, I.tok _, ⟨_, rfl⟩, q⟩
    | bl b =>
      cases (show _ = Value.bool b from r1)
      exact PySem.P.repr_of_bool ⟨.str (PyData.shown (.bool b)), H, I.tok _, ⟨_, by cases b <;> rfl⟩, q⟩
    | int i =>
      obtain ⟨t, rfl⟩ := (show ∃ t, _ = Value.int i t from r1)
      exact PySem.P.repr_of_int (of_decide_eq_true hs) ⟨.str (PyData.shown (.int i)), H, I.tok _, ⟨_, rfl⟩, q⟩
    | str z =>
      obtain ⟨t, rfl⟩ := (show ∃ t, _ = Value.str z t from r1)
      exact PySem.P.repr_of_str ⟨.str (PyData.shown (.str z)), H, I.tok _, ⟨_, rfl⟩, q⟩ hz
    | lst h1 h2 =>
      rename_i a xs ds
      obtain rfl : _ = Value.ref a := r1
      obtain ⟨as, rd⟩ := Dp.reads I (.list ds) (.ref a) (.ref a) (.lst h1 h2) rfl
      exact repr_of_reads' rd hs (PyData.noDict_hsm hn) hg (by omega) (fun _ _ e => e) (fun h' u tk hk => ⟨.str _, H, I.kept (t' := tk) hk, ⟨_, rfl⟩, q⟩) hz
    | tup h1 h2 =>
      rename_i a xs ds
      obtain rfl : _ = Value.ref a := r1
      obtain ⟨as, rd⟩ := Dp.reads I (.tuple ds) (.ref a) (.ref a) (.tup h1 h2) rfl
      exact repr_of_reads' rd hs (PyData.noDict_hsm hn) hg (by omega) (fun _ _ e => e) (fun h' u tk hk => ⟨.str _, H, I.kept (t' := tk) hk, ⟨_, rfl⟩, q⟩) hz
end
/-! ### the end, for a law that makes texts of lists and tuples -/
section
variable {P : Program} {w : World} {K : PySem.W.Frag} {mg mb : Str → Option Value} {k : Nat} {fa a : Addr} {fd : FuncData} {x : Str} {sp : Sp} {s1 : Shared} {us : List Value} {ns : List Int}
/-- from a heap in which the script alone may be tracked -/
theorem end_from {H : Hp} (inK : K.In s1.heap) (nm : s1.heap.Ns mainGlobals mg) (nb : s1.heap.Ns builtinsNs mb) (bb : ∀ y : Str, y ≠ "__name__" → mb y = bootBuiltins y) (lim : s1.heap.NoLimit) (gs : s1.gens = #[])
    (at_ : s1.heap.get? a = some { cls := .type "list", data := .seq us.toArray }) (rm : Room k callerA)
    (F : ∀ base : Heap, K.In base → base.Ns mainGlobals mg → FnG P w K mg base k fa fd [x] sp) (bt : ∀ (s : Shared) (u : Value), BindsTo s fd ⟨[u], []⟩ [(x, u)])
    (hO : Only H) (want : sp [.ref a] H (fun v _ => v = .bl true) fun _ _ _ => False) (hok : HOk P w H s1.heap) (onlyA : ∀ b, H b ≠ none → b = a) (offK : H a ≠ none → K.lookup a = none) :
    codeAny (model P w) callerA (.call (.ref fa) ⟨[.ref a], []⟩) (fun r s' => r = .ok (.ret (.bool true)) ∧ OldK s1.heap s'.heap ∧ s'.os = s1.os ∧ AllBare s'.gens) s1 := by
  have untr : ∀ {b : Addr}, (b = a → False) → H b = none := fun {b} nb => by
    cases z : H b with
    | none => rfl
    | some u => exact (nb (onlyA b (by rw [z]; simp))).elim
  have stay : ∀ {b : Addr} {o : Obj}, s1.heap.get? b = some o → H b = none → (hidT s1.heap H).get? b = some o := fun e n => hidT_get e n
  have names : ∀ {b : Addr} {m : Str → Option Value}, s1.heap.Ns b m → (hidT s1.heap H).Ns b m := fun {b m} ⟨o, es, ep, e, d, r⟩ => ⟨o, es, ep, stay e (untr fun z => by
    subst z
    rw [at_] at e
    cases e
    have d2 : Data.seq us.toArray _ = Data.dict es ep := d
    cases d2), d, r⟩
  have inK2 : K.In (hidT s1.heap H) := fun b o e => stay (inK b o e) (by
    cases z : H b with
    | none => rfl
    | some u =>
      have e2 : b = a := onlyA b (by rw [z]; simp)
      subst e2
      rw [offK (by rw [z]; simp)] at e
      cases e)
  obtain ⟨mc, l1, l2⟩ := lim
  have start0 : Env0 P w K mg (hidT s1.heap H) callerA [] s1 H :=
    ⟨rfl, ⟨inK2, names nm, ⟨mb, names nb, bb⟩, ⟨mc, names l1, l2⟩⟩, fun b o e => of_hidT e, Nat.le_of_eq (hidT_size _ _), trivial, fun b hb => absurd (show b ∈ ([] : List Addr) from hb) (by simp), hok, .of_eq gs⟩
  refine codeAny_mono ((F _ inK2 (names nm)).goes callerA [] s1 H ⟨[.ref a], []⟩ [.ref a] [.ref a] _ _ rfl rm start0 (bt s1 (.ref a)) (.cons rfl .nil) want) fun out t hs => ?_
  cases out with
  | error er => exact hs.elim
  | ok fl =>
    cases fl with
    | ret u =>
      obtain ⟨v, H', os, bare, un, hok2, rv, z⟩ := hs
      have z2 : v = .bl true := z
      subst z2
      obtain rfl : u = Value.bool true := rv
      refine ⟨rfl, OldK.of_keep fun b o e => ?_, os, bare⟩
      cases z : H b with
      | none => exact un.keep b o e z (fun y => absurd (show b ∈ ([] : List Addr) from y) (by simp)) (by simp)
      | some h0 =>
        rcases hO b with y | ⟨ob, xs, y⟩
        · rw [z] at y
          cases y
        · obtain ⟨e1, _⟩ := hok b _ y
          obtain ⟨e2, _⟩ := hok2 b _ (un.frzs b ob _ y)
          rw [e] at e1
          cases e1
          exact e2
    | next => exact hs.elim
    | brk => exact hs.elim
    | cont => exact hs.elim
theorem end_call (inK : K.In s1.heap) (nm : s1.heap.Ns mainGlobals mg) (nb : s1.heap.Ns builtinsNs mb) (bb : ∀ y : Str, y ≠ "__name__" → mb y = bootBuiltins y) (lim : s1.heap.NoLimit) (gs : s1.gens = #[])
    (at_ : s1.heap.get? a = some { cls := .type "list", data := .seq us.toArray }) (hIn : IntsAre us ns) (fits : ns.length ≤ sizeLine) (rm : Room k callerA)
    (F : ∀ base : Heap, K.In base → base.Ns mainGlobals mg → FnG P w K mg base k fa fd [x] sp) (bt : ∀ (s : Shared) (u : Value), BindsTo s fd ⟨[u], []⟩ [(x, u)])
    (want : ∀ H : Hp, Only H → SqL K H a (ns.map V.int) → sp [.ref a] H (fun v _ => v = .bl true) fun _ _ _ => False) :
    codeAny (model P w) callerA (.call (.ref fa) ⟨[.ref a], []⟩) (fun r s' => r = .ok (.ret (.bool true)) ∧ OldK s1.heap s'.heap ∧ s'.os = s1.os ∧ AllBare s'.gens) s1 := by
  have rel := vals_ints hIn
  have len := hIn.length
  cases lk : K.lookup a with
  | some o =>
    have e := inK a o lk
    rw [at_] at e
    cases e
    have only0 : Only (fun _ => none) := fun _ => .inl rfl
    exact end_from (H := fun _ => none) inK nm nb bb lim gs at_ rm F bt only0 (want _ only0 (.inr ⟨_, us.toArray, _, lk, rfl, rfl, rfl, by rw [List.size_toArray, len]; exact fits, by simpa using rel⟩))
      (fun b u z => nomatch (show (none : Option HO) = some u from z)) (fun b z => absurd rfl z) fun z => absurd rfl z
  | none =>
    have pos : ∀ {b : Addr}, b = a → (if b = a then some (HO.frz { cls := .type "list", data := .seq us.toArray } (.lst (ns.map V.int))) else none) = some (.frz { cls := .type "list", data := .seq us.toArray } (.lst (ns.map V.int))) := fun e => if_pos e
    have only1 : Only (fun b => if b = a then some (.frz { cls := .type "list", data := .seq us.toArray } (.lst (ns.map V.int))) else none) := fun b => by
      by_cases e : b = a
      · exact .inr ⟨_, _, pos e⟩
      · exact .inl (if_neg e)
    refine end_from inK nm nb bb lim gs at_ rm F bt only1 (want _ only1 (.inl (.inr ⟨{ cls := .type "list", data := .seq us.toArray }, if_pos rfl⟩))) (fun b u z => ?_) (fun b z => ?_) fun _ => lk
    · by_cases e : b = a
      · have y := (pos e).symm.trans z
        cases y
        subst e
        exact ⟨at_, by rw [List.length_map]; exact fits, us, _, rel, at_⟩
      · have y := (if_neg e).symm.trans z
        cases y
    · by_cases e : b = a
      · exact e
      · exact absurd (if_neg e) z
end
theorem walk_ofG {l : PySem.W.OpenLaw} {n k : Nat} {q : Program} {loose : List Str} {XP : (Str → Option Value) → Heap → Prop} {YP : World → Heap → Prop} {d : DefRec} {K : Params → PySem.W.Frag} {sp : World → Sp} {x : Str}
    (hn : l.most = some n) (hn2 : n ≤ sizeLine) (hdf : d.params.defaults = []) (rm : Room k callerA) (inK : ∀ (w : World) (h : Heap), YP w h → (K w.params).In h)
    (F : ∀ (w : World) (mg : Str → Option Value) (fa : Addr) (h : Heap), (K w.params).In h → h.Ns mainGlobals mg → mg d.name = some (.ref fa) →
      ∃ fd : FuncData, (∀ (s : Shared) (u : Value), BindsTo s fd ⟨[u], []⟩ [(x, u)]) ∧ ∀ base : Heap, (K w.params).In base → base.Ns mainGlobals mg → FnG l.prog w (K w.params) mg base k fa fd [x] (sp w))
    (want : ∀ (w : World) (H : Hp) (a : Addr) (ns : List Int), ns.length ≤ n → Only H → SqL (K w.params) H a (ns.map V.int) → sp w [.ref a] H (fun v _ => v = .bl true) fun _ _ _ => False) :
    PySem.W.WalkO q loose XP YP l.row.toRowW d [] (fun f vs => PySem.call f vs) := by
  refine Att.attach_call hn hdf fun w s0 s1 mg mb fa o pm cd doc a us ns G Y ho hd hcd hmg hobj hints hlen hg => ?_
  obtain ⟨fd, bt, go⟩ := F w mg fa _ (inK w _ Y) G.T.g hmg
  exact end_call (inK w _ Y) G.T.g G.T.b G.T.builtins G.T.nolimit hg hobj hints (Nat.le_trans hlen hn2) rm go bt fun H hO hS => want w H a ns hlen hO hS
def top (i : Nat) : Stmt := PySem.Challenge.pw_threereckons_k15_nodes_and_parts.main.body.getD i (.Pass ⟨0, 0, 0, 0⟩)
def isLet (c : Nat) : Bool := decide (97 ≤ c) && decide (c ≤ 122)
def OWNL : List Nat := [111, 119, 110]
/-! ### the draws -/
abbrev s__law_take : Stmt := top 13
abbrev N__law_take : List Str := ["_law_box", "_law_many", "_law_found", "_law_once", "_law_twice"]
abbrev P__law_take : List Str := ["_law_box", "_law_many"]
theorem sc__law_take : FnScope N__law_take P__law_take (defScope s__law_take) := ⟨rfl, rfl, rfl, by decide +kernel, rfl, by decide +kernel, by decide +kernel⟩
abbrev s__law_dip : Stmt := top 12
abbrev N__law_dip : List Str := ["_law_script", "_law_k", "_law_cell"]
abbrev P__law_dip : List Str := ["_law_script", "_law_k"]
theorem sc__law_dip : FnScope N__law_dip P__law_dip (defScope s__law_dip) := ⟨rfl, rfl, rfl, by decide +kernel, rfl, by decide +kernel, by decide +kernel⟩
abbrev s__law_folded : Stmt := top 14
abbrev N__law_folded : List Str := ["_law_script", "_law_size", "_law_cells", "_law_k", "_law_cell"]
abbrev P__law_folded : List Str := ["_law_script", "_law_size"]
theorem sc__law_folded : FnScope N__law_folded P__law_folded (defScope s__law_folded) := ⟨rfl, rfl, rfl, by decide +kernel, rfl, by decide +kernel, by decide +kernel⟩
section
variable {P : Program} {w : World} {K : PySem.W.Frag} {mg : Str → Option Value} {base : Heap}
theorem ok_take (D : Dd K mg "_law_take" s__law_take P__law_take) : C8.Cal P w K mg base 1 "_law_take" spTake [] := by
  refine D.cal sc__law_take (fun vs H Q E h => ?_) (fun f cdv A outer s H vs Q E hr h => ?_)
  · obtain ⟨a, many, n, b, rfl, _⟩ := h
    rfl
  · obtain ⟨a, many, n, b, rfl, ha, ⟨b0, b1, b2, rfl, h0, h1, h1', h2, h2'⟩, hn, hm, hm', k⟩ := h
    refine ⟨_, (pss_cons (ps_if (pt_cmpR op_gt (pe_ix ix_list (pv 0) pe_int (fun _ _ => rfl)) pe_int (nomark _))
          (pss_cons (ps_set (i := 2) sc__law_take.nd rfl (Or.inl rfl) (pe_op op_mod (pe_ix ix_list (pv 0) pe_int (fun _ _ => rfl)) (pv 1)))
        (pss_cons (ps_asg (pe_op op_fdiv (pe_ix ix_list (pv 0) pe_int (fun _ _ => rfl)) (pv 1)) (pg_sub (pv 0) pe_int set_list))
        (pss_one (ps_ret (pv 2)))))
          pss_nil)
        (pss_cons (ps_asg (pe_op op_add (pe_ix ix_list (pv 0) pe_int (fun _ _ => rfl)) pe_int) (pg_sub (pv 0) pe_int set_list))
        (pss_cons (ps_set (i := 3) sc__law_take.nd rfl (Or.inl rfl) (pe_op op_mod (pe_op op_pow (pe_op op_add (pe_ix ix_list (pv 0) pe_int (fun _ _ => rfl)) (pe_op op_mul pe_int (pe_ix ix_list (pv 0) pe_int (fun _ _ => rfl)))) pe_int) pe_int))
        (pss_cons (ps_set (i := 4) sc__law_take.nd rfl (Or.inl rfl) (pe_op op_mod (pe_op op_mul (pe_op op_add (pe_op op_add (pv 3) (pe_ix ix_list (pv 0) pe_int (fun _ _ => rfl))) (pe_op op_fdiv (pe_ix ix_list (pv 0) pe_int (fun _ _ => rfl)) pe_int)) (pe_op op_add (pe_op op_add (pe_op op_mod (pv 3) pe_int) pe_int) (pe_ix ix_list (pv 0) pe_int (fun _ _ => rfl)))) pe_int))
        (pss_one (ps_ret (pe_op op_mod (pe_op op_fdiv (pe_op op_mod (pe_op op_add (pe_op op_mul (pv 4) pe_int) (pv 3)) pe_int) pe_int) (pv 1)))))))), ?_⟩
    have hL : SqL K H a [.int b0, .int b1, .int b2] := SqL.of ha
    refine ⟨_, rfl, a, _, 0, .int b0, rfl, rfl, hL, atI_nat (j := 0) rfl, _, _, rfl, rfl, _, rfl, ite2 (fun e => ?_) (fun e => ?_)⟩
    · have e0 : 0 < b0 := of_decide_eq_true e
      refine ⟨_, rfl, a, _, 0, .int b0, rfl, rfl, hL, atI_nat (j := 0) rfl, .int many, rfl, _, _, rfl, rfl, hm, ?_⟩
      refine ⟨_, rfl, a, _, 0, .int b0, rfl, rfl, hL, atI_nat (j := 0) rfl, .int many, rfl, _, _, rfl, rfl, ⟨hm, hm'⟩, ?_⟩
      refine ⟨_, rfl, a, _, 0, 0, rfl, rfl, ha, rfl, _, rfl, ?_⟩
      refine k (b0 % many) _ (Int.emod_nonneg _ (by omega)) (Int.emod_lt_of_pos _ hm) ⟨b0 / many, b1, b2, rfl, Int.ediv_nonneg h0 (by omega), h1, h1', h2, by omega⟩
    · refine ⟨_, rfl, a, _, 2, .int b2, rfl, rfl, hL, atI_nat (j := 2) rfl, _, _, rfl, rfl, _, rfl, a, _, 2, 2, rfl, rfl, ha, rfl, ?_⟩
      have hL2 : SqL K (upd H a (.lst [.int b0, .int b1, .int (b2 + 1)])) a [.int b0, .int b1, .int (b2 + 1)] := SqL.of upd_same
      refine ⟨_, rfl, a, _, 1, .int b1, rfl, rfl, hL2, atI_nat (j := 1) rfl, _, rfl, a, _, 2, .int (b2 + 1), rfl, rfl, hL2, atI_nat (j := 2) rfl, _, _, rfl, rfl, .inl ⟨by decide, by decide⟩, _, _, rfl, rfl, _, _, rfl, rfl,
        ⟨by decide, by decide, by omega⟩, _, _, rfl, rfl, (by show (0 : Int) < _; decide), ?_⟩
      have q : (b1 + 39373 * (b2 + 1)) ^ Int.toNat 5 % 2147483647 = (b1 + 39373 * (b2 + 1)) ^ Int.toNat 5 % 2147483647 := rfl
      generalize (b1 + 39373 * (b2 + 1)) ^ Int.toNat 5 = w5
      have g1 : 0 ≤ w5 % 2147483647 := Int.emod_nonneg _ (by decide)
      have g2 : w5 % 2147483647 < 2147483647 := Int.emod_lt_of_pos _ (by decide)
      have g3 : 0 ≤ b1 / 1000003 := Int.ediv_nonneg h1 (by decide)
      have g4 : b1 / 1000003 ≤ b1 := Int.ediv_le_self _ h1
      have g5 : 0 ≤ w5 % 2147483647 % 40009 := Int.emod_nonneg _ (by decide)
      have g6 : w5 % 2147483647 % 40009 < 40009 := Int.emod_lt_of_pos _ (by decide)
      refine ⟨_, rfl, _, rfl, a, _, 2, .int (b2 + 1), rfl, rfl, hL2, atI_nat (j := 2) rfl, _, _, rfl, rfl, _, rfl, a, _, 1, .int b1, rfl, rfl, hL2, atI_nat (j := 1) rfl, _, _, rfl, rfl, ⟨by decide, by decide⟩, _, _, rfl, rfl,
        _, rfl, _, _, rfl, rfl, (by show (0 : Int) < _; decide), _, _, rfl, rfl, _, rfl, a, _, 2, .int (b2 + 1), rfl, rfl, hL2, atI_nat (j := 2) rfl, _, _, rfl, rfl, _, _, rfl, rfl, .inl ⟨by omega, by omega⟩, _, _, rfl, rfl, (by show (0 : Int) < _; decide), ?_⟩
      generalize (w5 % 2147483647 + (b2 + 1) + b1 / 1000003) * (w5 % 2147483647 % 40009 + 7 + (b2 + 1)) = w6
      refine ⟨_, rfl, _, _, rfl, rfl, .inr ⟨by decide, by decide⟩, _, rfl, _, _, rfl, rfl, _, _, rfl, rfl, (by show (0 : Int) < _; decide), _, _, rfl, rfl, ⟨by decide, by decide⟩, .int many, rfl, _, _, rfl, rfl, hm, ?_⟩
      exact k _ _ (Int.emod_nonneg _ (by omega)) (Int.emod_lt_of_pos _ hm) ⟨b0, b1, b2 + 1, rfl, h0, h1, h1', by omega, by omega⟩
theorem b01 (b : Bool) : -(2 ^ 64) < (if b = true then (1 : Int) else 0) ∧ (if b = true then (1 : Int) else 0) < 2 ^ 64 := by cases b <;> decide
theorem dip_b0 (c : Int) (b : Bool) : 0 ≤ (if c < 0 then -c else c) * (if b = true then 1 else 0) := by
  cases b with
  | false => simp
  | true =>
    rw [if_pos rfl, Int.mul_one]
    split <;> omega
theorem ok_dip (B : Bt mg) (D : Dd K mg "_law_dip" s__law_dip P__law_dip) : C8.Cal P w K mg base 1 "_law_dip" (spDip K) [] := by
  refine D.cal sc__law_dip (fun vs H Q E h => ?_) (fun f cdv A outer s H vs Q E hr h => ?_)
  · obtain ⟨a, k, ns, rfl, _⟩ := h
    rfl
  · obtain ⟨a, k, ns, rfl, hS, hk, q⟩ := h
    have T := B
    refine ⟨_, (pss_cons (ps_set (i := 2) sc__law_dip.nd rfl (Or.inl rfl) (pe_ifExp (pt_cmpR op_lt (pv 1) (pe_callB call_len_seq (by rfl) T.len PySem.boot_len (pa_cons (pv 0) pa_nil)) (nomark _)) (pe_ix ix_list (pv 0) (pv 1) (fun _ _ => rfl)) pe_int))
        (pss_one (ps_ret (pe_lst (pa_cons (pe_op op_mul (pe_callB call_abs (by rfl) T.abs (by decide +kernel) (pa_cons (pv 2) pa_nil)) (pe_callTy call_int1 (by rfl) T.int (by decide +kernel) (pa_cons (pe_cmpR op_ge (pe_callB call_abs (by rfl) T.abs (by decide +kernel) (pa_cons (pv 2) pa_nil)) (pe_op op_pow pe_int pe_int) (nomark _)) pa_nil))) (pa_cons (pe_op op_add (pe_op op_add (pe_op op_mod (pv 2) pe_int) (pe_op op_mul pe_int (pv 1))) pe_int) (pa_cons pe_int pa_nil))))))), ?_⟩
    have rest : ∀ c : Int, (tRet (tLst (tCons (tOp (rI CMul fun i j => .int (i * j)) (tCB (fun xs H Q => ∃ i, xs = [.int i] ∧ Q (.int (if i < 0 then -i else i)) H) (tCons (tVar 2) tNil))
        (tCB (fun xs H Q => (∃ i, xs = [.int i] ∧ Q (.int i) H) ∨ ∃ k, xs = [.bl k] ∧ Q (.int (if k then 1 else 0)) H) (tCons (tOp (rI0 fun i j => .bl (decide (j ≤ i))) (tCB (fun xs H Q => ∃ i, xs = [.int i] ∧ Q (.int (if i < 0 then -i else i)) H) (tCons (tVar 2) tNil)) (tOp (rI CPow fun i j => .int (i ^ j.toNat)) (tC (.int 10)) (tC (.int 18)))) tNil)))
        (tCons (tOp (rI0 fun i j => .int (i + j)) (tOp (rI0 fun i j => .int (i + j)) (tOp (rI (fun _ j => 0 < j) fun i j => .int (i % j)) (tVar 2) (tC (.int 2305843009213693951))) (tOp (rI CMul fun i j => .int (i * j)) (tC (.int 39373)) (tVar 1))) (tC (.int 17))) (tCons (tC (.int 0)) tNil)))))
        { nx := fun _ H' => Q .non H', rt := Q } [some (.ref a), some (.int k), some (.int c)] H := fun c => by
      refine ⟨_, rfl, c, rfl, _, rfl, c, rfl, _, _, rfl, rfl, ⟨by decide, by decide, by decide⟩, _, _, rfl, rfl, .inr ⟨_, rfl, ?_⟩⟩
      refine ⟨_, _, rfl, rfl, .inr (b01 _), ?_⟩
      refine ⟨_, rfl, _, _, rfl, rfl, (by show (0 : Int) < _; decide), _, rfl, _, _, rfl, rfl, .inl ⟨by decide, by decide⟩, _, _, rfl, rfl, _, _, rfl, rfl, ?_⟩
      refine ⟨by show 3 ≤ sizeLine; decide, fun p hp => q p _ hp ⟨_, _, 0, rfl, dip_b0 c _, ?_, ?_, Int.le_refl _, Int.le_refl _⟩⟩
      · have := Int.emod_nonneg c (show (2305843009213693951 : Int) ≠ 0 by decide)
        omega
      · have := Int.emod_lt_of_pos c (show (0 : Int) < 2305843009213693951 by decide)
        omega
    refine ⟨_, rfl, _, rfl, a, _, rfl, .inl hS, _, _, rfl, rfl, _, rfl, ite2 (fun e => ?_) (fun e => ?_)⟩
    · have hlt : k < ns.length := by
        have := of_decide_eq_true e
        rw [List.length_map] at this
        omega
      have g : (ns.map V.int)[k]? = some (.int ns[k]) := by
        rw [List.getElem?_map, List.getElem?_eq_getElem hlt]
        rfl
      exact ⟨_, rfl, _, rfl, a, _, k, .int ns[k], rfl, rfl, hS, atI_nat g, rest _⟩
    · exact rest 0
theorem ixN_nat {n j : Nat} (h : j < n) : ixN n (j : Int) = some j := by
  unfold ixN
  rw [if_pos (by omega), if_pos (by omega)]
  simp
theorem ok_folded (B : Bt mg) (D : Dd K mg "_law_folded" s__law_folded P__law_folded) : C8.Cal P w K mg base 1 "_law_folded" (spFold K) [] := by
  refine D.cal sc__law_folded (fun vs H Q E h => ?_) (fun f cdv A outer s H vs Q E hr h => ?_)
  · obtain ⟨a, size, ns, rfl, _⟩ := h
    rfl
  · obtain ⟨a, size, ns, rfl, hS, hl, h1, h8, q⟩ := h
    have T := B
    refine ⟨_, (pss_cons (ps_set (i := 2) sc__law_folded.nd rfl (Or.inl rfl) (pe_callTy call_list_of (by rfl) T.list (by decide +kernel) (pa_cons (pe_slice sl_list (pv 0) po_none (po_some (pv 1))) pa_nil)))
        (pss_cons (ps_for PassesOwn.never rfl (pi_enum (by rfl) T.enumerate (pa_cons (pe_slice sl_list (pv 0) (po_some (pv 1)) (po_some pe_int)) pa_nil)) (pg_tup rfl (pgs_cons (pg_name (i := 3) sc__law_folded.nd rfl (Or.inl rfl)) (pgs_cons (pg_name (i := 4) sc__law_folded.nd rfl (Or.inl rfl)) pgs_nil)))
          (pss_one (ps_asg (pe_op op_add (pe_ix ix_list (pv 2) (pe_op op_mod (pv 3) (pv 1)) (fun _ _ => rfl)) (pe_op op_mul (pv 4) (pe_op op_add (pv 3) pe_int))) (pg_sub (pv 2) (pe_op op_mod (pv 3) (pv 1)) set_list))))
        (pss_one (ps_ret (pv 2))))), ?_⟩
    -- cells = list(script[:size])
    refine ⟨_, rfl, _, rfl, _, rfl, a, _, rfl, hS, fun c1 n1 => ⟨c1, _, rfl, .inl (SqL.of upd_same), fun l nl => ?_⟩⟩
    have s1 : Same H (upd H c1 (.lst (cutV (ns.map V.int) none (some (size : Int))))) := same_upd n1
    have s2 := s1.trans (same_upd (o := .lst (cutV (ns.map V.int) none (some (size : Int)))) nl)
    -- enumerate(script[size:63])
    refine ⟨_, rfl, _, rfl, _, rfl, _, rfl, a, _, rfl, s2.seq hS, fun c2 n2 => ⟨c2, _, rfl, SqL.of upd_same, ?_⟩⟩
    have nlc : l ≠ c2 := fun e => by
      rw [e] at n2
      rw [← e, upd_same] at n2
      cases n2
    refine for_it walk_enum (fun i σ H3 => ∃ y3 y4, ∃ ms : List Int, σ = [some (.ref a), some (.int size), some (.ref l), y3, y4] ∧ Same H H3 ∧ H3 c2 = some (.lst (cutV (ns.map V.int) (some (size : Int)) (some 63))) ∧ H3 l = some (.lst (ms.map V.int)) ∧ ms.length = min size ns.length)
      ⟨none, none, ns.take size, rfl, s2.trans (same_upd n2), upd_same, ?_, by rw [List.length_take]⟩ (fun i σ H3 _ ⟨_, _, _, _, _, hc, _⟩ => SqL.of hc) ?_ ?_
    · rw [upd_ne nlc, upd_same, cut_to]
    · rintro i v σ H3 H4 hi ⟨y3, y4, ms, rfl, sm, hc, hm, hml⟩ ⟨T, x, y, rfl, nT, rfl, ex, ey⟩
      cases ex
      obtain ⟨rs, ers, _⟩ := cut_ints ns (some (size : Int)) (some 63)
      have hsz : size ≤ ns.length := by
        apply Classical.byContradiction
        intro hh
        rw [cut_from_nil ns size (by omega)] at hi
        simp at hi
      have hms : ms.length = size := by omega
      rw [ers] at ey
      rw [ers, List.length_map] at hi
      have ey' : y = .int rs[i] := by
        replace ey : (List.map V.int rs)[i]? = some y := ey
        rw [List.getElem?_map, List.getElem?_eq_getElem hi] at ey
        exact (Option.some.inj ey).symm
      subst ey'
      have hi63 : i < 63 := by omega
      have nTl : l ≠ T := ne_of_none hm nT
      have nTc : c2 ≠ T := ne_of_none hc nT
      have hm' : (upd H3 T (.tup [.int (i : Nat), .int rs[i]])) l = some (.lst (ms.map V.int)) := by
        rw [upd_ne nTl]
        exact hm
      have hj : i % size < ms.length := by
        rw [hms]
        exact Nat.mod_lt _ (by omega)
      have g : (ms.map V.int)[i % size]? = some (.int ms[i % size]) := by
        rw [List.getElem?_map, List.getElem?_eq_getElem hj]
        rfl
      have ei : ((i : Nat) : Int) % ((size : Nat) : Int) = ((i % size : Nat) : Int) := by omega
      refine ⟨T, _, rfl, SqT.of upd_same, rfl, _, _, rfl, _, _, rfl, rfl, ?_⟩
      refine ⟨_, rfl, _, rfl, _, rfl, _, _, rfl, rfl, (by show (0 : Int) < _; omega), l, _, _, .int ms[i % size], rfl, rfl, SqL.of hm', ?_, ?_⟩
      · rw [ei]
        exact atI_nat g
      refine ⟨_, rfl, _, rfl, _, _, rfl, rfl, _, _, rfl, rfl, .inr ⟨by omega, by omega⟩, _, _, rfl, rfl, _, rfl, _, rfl, _, rfl, _, _, rfl, rfl, (by show (0 : Int) < _; omega), l, _, _, i % size, rfl, rfl, hm', ?_, ?_⟩
      · rw [ei, List.length_map]
        exact ixN_nat hj
      · refine ⟨_, _, ms.set (i % size) (ms[i % size] + rs[i] * ((i : Int) + 2)), rfl, fun b z e => ?_, ?_, ?_, by rw [List.length_set]; exact hml⟩
        · have nb : b ≠ l := by
            intro eb
            rw [eb] at e
            have e2 := s1 _ _ e
            rw [e2] at nl
            cases nl
          rw [upd_ne nb]
          exact same_upd nT _ _ (sm _ _ e)
        · rw [upd_ne nlc.symm, upd_ne nTc]
          exact hc
        · rw [upd_same, List.map_set]
    · rintro σ H3 ⟨y3, y4, ms, rfl, sm, hc, hm, hml⟩
      exact ⟨_, rfl, q H3 l ms sm (s1.free nl) hm (by omega)⟩
end
/-! ### own_copy, of data of any depth -/
abbrev s_own_copy : Stmt := top 1
abbrev N_own_copy : List Str := ["thing", "copied", "part"]
abbrev P_own_copy : List Str := ["thing"]
theorem sc_own_copy : FnScope N_own_copy P_own_copy (defScope s_own_copy) := ⟨rfl, rfl, rfl, by decide +kernel, rfl, by decide +kernel, by decide +kernel⟩
structure Ot (mg : Str → Option Value) : Prop where
  isinstance : mg "isinstance" = none
  list : mg "list" = none
  tuple : mg "tuple" = none
/-- data so deep at most, no list or tuple of more than 500 -/
inductive Sm : Nat → PyData → Prop where
  | non (n : Nat) : Sm n .none
  | bl (n : Nat) (b : Bool) : Sm n (.bool b)
  | int (n : Nat) (i : Int) : Sm n (.int i)
  | str (n : Nat) (x : Str) : Sm n (.str x)
  | lst (n : Nat) {ds : List PyData} (h : ds.length ≤ 500) (a : ∀ d ∈ ds, Sm n d) : Sm (n + 1) (.list ds)
  | tup (n : Nat) {ds : List PyData} (h : ds.length ≤ 500) (a : ∀ d ∈ ds, Sm n d) : Sm (n + 1) (.tuple ds)
section
variable {K : PySem.W.Frag} {H H' : Hp}
theorem Same.seqL {a : Addr} {xs : List V} (s : Same H H') (h : SqL K H a xs) : SqL K H' a xs := by
  rcases h with (h | ⟨o, h⟩) | h
  · exact .inl (.inl (s _ _ h))
  · exact .inl (.inr ⟨o, s _ _ h⟩)
  · exact .inr h
theorem Same.seqT {a : Addr} {xs : List V} (s : Same H H') (h : SqT K H a xs) : SqT K H' a xs := by
  rcases h with (h | ⟨o, h⟩) | h
  · exact .inl (.inl (s _ _ h))
  · exact .inl (.inr ⟨o, s _ _ h⟩)
  · exact .inr h
mutual
theorem dp_same (s : Same H H') : ∀ {v : V} {d : PyData}, Dp K H v d → Dp K H' v d
  | _, _, .non => .non
  | _, _, .bl b => .bl b
  | _, _, .int i => .int i
  | _, _, .str x => .str x
  | _, _, .lst h a => .lst (Same.seqL s h) (dpAll_same s a)
  | _, _, .tup h a => .tup (Same.seqT s h) (dpAll_same s a)
theorem dpAll_same (s : Same H H') : ∀ {vs : List V} {ds : List PyData}, DpAll K H vs ds → DpAll K H' vs ds
  | _, _, .nil => .nil
  | _, _, .cons h a => .cons (dp_same s h) (dpAll_same s a)
end
theorem dpAll_len : ∀ {vs : List V} {ds : List PyData}, DpAll K H vs ds → vs.length = ds.length
  | _, _, .nil => rfl
  | _, _, .cons _ a => by
    rw [List.length_cons, List.length_cons, dpAll_len a]
theorem dpAll_at : ∀ {vs : List V} {ds : List PyData}, DpAll K H vs ds → ∀ {i : Nat} {v : V}, vs[i]? = some v → ∃ d, ds[i]? = some d ∧ Dp K H v d
  | _, _, .cons h _, 0, _, e => ⟨_, rfl, by rw [← Option.some.inj e]; exact h⟩
  | _, _, .cons _ a, i + 1, _, e => dpAll_at a (i := i) e
theorem dpAll_snoc : ∀ {vs : List V} {ds : List PyData}, DpAll K H vs ds → ∀ {v : V} {d : PyData}, Dp K H v d → DpAll K H (vs ++ [v]) (ds ++ [d])
  | _, _, .nil, _, _, h => .cons h .nil
  | _, _, .cons h0 a, _, _, h => .cons h0 (dpAll_snoc a h)
theorem tyL {a : Addr} {xs : List V} (h : SqL K H a xs) : TyX K H (.ref a) (.type "list") := by
  rcases h with (h | ⟨o, h⟩) | ⟨o, its, n, l, c, _⟩
  · exact .base (.lst h)
  · exact .base (.frz h)
  · exact .kList l c
theorem tyT {a : Addr} {xs : List V} (h : SqT K H a xs) : TyX K H (.ref a) (.type "tuple") := by
  rcases h with (h | ⟨o, h⟩) | ⟨o, its, n, l, c, _⟩
  · exact .base (.tup h)
  · exact .fTuple h
  · exact .kTuple l c
theorem kitLT {t : String} {b : Bool} (h : kitB t "list" = some b) (h2 : b = false → kitB t "tuple" = some false) : PySem.W.kitAny K (.type t) [.type "list", .type "tuple"] = some b := by
  refine kitAny_cons (kit_ty h) (fun e => ?_) (fun e => e)
  rw [e]
  exact kitAny_cons (b := false) (kit_ty (h2 e)) (fun _ => kitAny_nil) (fun e => nomatch e)
end
/-- what is new in H', the address c left out -/
def Nw (H H' : Hp) : Hp := fun b => if H b = none then H' b else none
theorem Nw.sub {H H' : Hp} : Same (Nw H H') H' := fun b o e => by
  unfold Nw at e
  split at e
  · exact e
  · cases e
theorem Nw.mk {H H' : Hp} {b : Addr} {o : HO} (h : H b = none) (e : H' b = some o) : Nw H H' b = some o := by
  unfold Nw
  rw [if_pos h]
  exact e
theorem Nw.get {H H' : Hp} {b : Addr} {o : HO} (h : Nw H H' b = some o) : H b = none ∧ H' b = some o := by
  unfold Nw at h
  split at h
  · exact ⟨by assumption, h⟩
  · cases h
theorem kitLT2 {K : PySem.W.Frag} : PySem.W.kitAny K (.type "tuple") [.type "list", .type "tuple"] = some true :=
  kitAny_cons (b := false) (kit_ty (by decide +kernel)) (fun _ => kitAny_cons (b := true) (kit_ty (by decide +kernel)) (fun e => nomatch e) (fun _ => rfl)) (fun e => nomatch e)
def spOwnD (K : PySem.W.Frag) (n : Nat) : Sp := fun vs H Q _ => ∃ (x : V) (d : PyData), vs = [x] ∧ Dp K H x d ∧ Sm n d ∧ ∀ (H' : Hp) (y : V), Same H H' → Dp K (Nw H H') y d → Q y H'
section
variable {P : Program} {w : World} {K : PySem.W.Frag} {mg : Str → Option Value} {base : Heap}
theorem own_flat (T : Ot mg) (f : Addr) (cdv : Value) (A : Around) (outer : List Env) (s : Shared) (H : Hp) (Q : VK) (E : XK) {x : V} {t : String} (ty : ∀ H', TyX K H' x (.type t)) (k1 : kitB t "list" = some false) (k2 : kitB t "tuple" = some false) (q : ∀ H', Same H H' → Q x H') :
    ∃ t, PSs (cxOf CX0 P w K mg base N_own_copy "own_copy" (defScope s_own_copy) f cdv A outer s H E).nox (defBody s_own_copy) t ∧ t { nx := fun _ H' => Q .non H', rt := Q } (start N_own_copy [x]) H := by
  refine ⟨_, (pss_cons (ps_if (pt_not (pt_val (pe_callB call_isiT (by rfl) T.isinstance (by decide +kernel) (pa_cons (pv 0) (pa_cons (pe_tup (pa_cons (pe_bltn (v := .ty "list") rfl T.list (by decide +kernel) rfl) (pa_cons (pe_bltn (v := .ty "tuple") rfl T.tuple (by decide +kernel) rfl) pa_nil))) pa_nil)))))
      (pss_one (ps_ret (pv 0))) pss_nil) (pss_cons ps_never (pss_cons ps_never (pss_cons ps_never (pss_one ps_never))))), ?_⟩
  refine ⟨_, rfl, by show 2 ≤ sizeLine; decide, fun tp nt => ?_⟩
  refine ⟨x, tp, _, .type t, [.type "list", .type "tuple"], false, rfl, upd_same, .cons (.ty "list") (.cons (.ty "tuple") .nil), ty _, kitLT k1 (fun _ => k2), _, rfl, ?_⟩
  exact iteT ⟨_, rfl, q _ (same_upd nt)⟩
theorem ok_ownD (T : Ot mg) (D : Dd K mg "own_copy" s_own_copy P_own_copy) : ∀ n, C8.Cal P w K mg base (n + 1) "own_copy" (spOwnD K n) [] := by
  intro n
  induction n with
  | zero =>
    refine D.cal sc_own_copy (fun vs H Q E h => ?_) (fun f cdv A outer s H vs Q E hr h => ?_)
    · obtain ⟨x, d, rfl, _⟩ := h
      rfl
    · obtain ⟨x, d, rfl, hx, hs, q⟩ := h
      cases hs with
      | non => cases hx; exact own_flat T f cdv A outer s H Q E (fun _ => .base .non) (by decide +kernel) (by decide +kernel) fun H' e => q H' _ e .non
      | bl _ b => cases hx; exact own_flat T f cdv A outer s H Q E (fun _ => .base (.bl b)) (by decide +kernel) (by decide +kernel) fun H' e => q H' _ e (.bl b)
      | int _ i => cases hx; exact own_flat T f cdv A outer s H Q E (fun _ => .base (.int i)) (by decide +kernel) (by decide +kernel) fun H' e => q H' _ e (.int i)
      | str _ z => cases hx; exact own_flat T f cdv A outer s H Q E (fun _ => .base (.str z)) (by decide +kernel) (by decide +kernel) fun H' e => q H' _ e (.str z)
  | succ n cown_copy =>
    refine D.cal sc_own_copy (fun vs H Q E h => ?_) (fun f cdv A outer s H vs Q E hr h => ?_)
    · obtain ⟨x, d, rfl, _⟩ := h
      rfl
    · obtain ⟨x, d, rfl, hx, hs, q⟩ := h
      cases hs with
      | non => cases hx; exact own_flat T f cdv A outer s H Q E (fun _ => .base .non) (by decide +kernel) (by decide +kernel) fun H' e => q H' _ e .non
      | bl _ b => cases hx; exact own_flat T f cdv A outer s H Q E (fun _ => .base (.bl b)) (by decide +kernel) (by decide +kernel) fun H' e => q H' _ e (.bl b)
      | int _ i => cases hx; exact own_flat T f cdv A outer s H Q E (fun _ => .base (.int i)) (by decide +kernel) (by decide +kernel) fun H' e => q H' _ e (.int i)
      | str _ z => cases hx; exact own_flat T f cdv A outer s H Q E (fun _ => .base (.str z)) (by decide +kernel) (by decide +kernel) fun H' e => q H' _ e (.str z)
      | lst _ hlen hall =>
        rename_i ds
        cases hx with
        | lst hS hd =>
          rename_i a xs
          refine ⟨_, (pss_cons (ps_if (pt_not (pt_val (pe_callB call_isiT (by rfl) T.isinstance (by decide +kernel) (pa_cons (pv 0) (pa_cons (pe_tup (pa_cons (pe_bltn (v := .ty "list") rfl T.list (by decide +kernel) rfl) (pa_cons (pe_bltn (v := .ty "tuple") rfl T.tuple (by decide +kernel) rfl) pa_nil))) pa_nil)))))
                (pss_one (ps_ret (pv 0)))
                pss_nil)
              (pss_cons (ps_set (i := 1) sc_own_copy.nd rfl (Or.inl rfl) (pe_lst pa_nil))
              (pss_cons (ps_for PassesOwn.never rfl (pi_list (pv 0)) (pg_name (i := 2) sc_own_copy.nd rfl (Or.inl rfl))
                (pss_one (ps_expr (pe_bm PySem.F.plainAttrs_list PySem.F.slot_list_append PySem.F.type_list_append mt_append (pv 1) (pa_cons (C8.pe_c cown_copy hr (by omega) (by rfl) (pa_cons (pv 2) pa_nil)) pa_nil)))))
              (pss_cons (ps_if (pt_val (pe_callB call_isi (by rfl) T.isinstance (by decide +kernel) (pa_cons (pv 0) (pa_cons (pe_bltn (v := .ty "tuple") rfl T.tuple (by decide +kernel) rfl) pa_nil))))
                (pss_one (ps_ret (pe_callTy call_tuple_of (by rfl) T.tuple (by decide +kernel) (pa_cons (pv 1) pa_nil))))
                pss_nil)
              (pss_one (ps_ret (pv 1))))))), ?_⟩
          have lx := dpAll_len hd
          refine ⟨_, rfl, by show 2 ≤ sizeLine; decide, fun tp nt => ?_⟩
          have s1 := same_upd (o := .tup [.ty "list", .ty "tuple"]) nt
          refine ⟨.ref a, tp, _, .type "list", [.type "list", .type "tuple"], true, rfl, upd_same, .cons (.ty "list") (.cons (.ty "tuple") .nil), tyL (Same.seqL s1 hS), kitLT (by decide +kernel) (fun e => nomatch e), _, rfl, iteF ?_⟩
          refine ⟨by show 0 ≤ sizeLine; decide, fun c nc => ?_⟩
          have s2 := s1.trans (same_upd (o := .lst []) nc)
          have nc0 : H c = none := s1.free nc
          refine ⟨_, rfl, a, rfl, ⟨_, Same.seqL s2 hS⟩, for_list (K := K) (a := a) (xs := xs) (fun i σ H3 => ∃ y2 ys, σ = [some (.ref a), some (.ref c), y2] ∧ Same H H3 ∧ H3 c = some (.lst ys) ∧ DpAll K (Nw (upd H c (.lst [])) H3) ys (ds.take i) ∧ i ≤ ds.length)
            ⟨none, [], rfl, s2, upd_same, .nil, by omega⟩ (fun i σ H3 _ ⟨_, _, _, s3, _⟩ => Same.seqL s3 hS) ?_ ?_⟩
          · rintro i x σ H3 hxi ⟨y2, ys, rfl, s3, hc, hys, hi⟩
            obtain ⟨d, hdi, hdp⟩ := dpAll_at hd hxi
            have hi2 : i < ds.length := (List.getElem?_eq_some_iff.mp hdi).1
            have ly := dpAll_len hys
            rw [List.length_take] at ly
            refine ⟨_, rfl, .inl ⟨rfl, _, SqL.of hc⟩, _, rfl, x, d, rfl, dp_same s3 hdp, hall d (List.mem_of_getElem? hdi), fun H4 y s4 hy => ?_⟩
            refine ⟨c, ys, y, rfl, rfl, s4 _ _ hc, small1000 (by omega), ?_⟩
            refine ⟨_, ys ++ [y], rfl, fun b o e => ?_, upd_same, ?_, by omega⟩
            · rw [upd_ne (ne_of_none e nc0)]
              exact s4 _ _ (s3 _ _ e)
            · rw [List.take_add_one, hdi]
              refine dpAll_snoc (dpAll_same (fun b o e => ?_) hys) (dp_same (fun b o e => ?_) hy)
              · obtain ⟨e1, e2⟩ := Nw.get e
                have nb : b ≠ c := fun z => by
                  rw [z, upd_same] at e1
                  cases e1
                exact Nw.mk e1 (by rw [upd_ne nb]; exact s4 _ _ e2)
              · obtain ⟨e1, e2⟩ := Nw.get e
                have nb : b ≠ c := fun z => by
                  rw [z, hc] at e1
                  cases e1
                exact Nw.mk (by rw [upd_ne nb]; exact s3.free e1) (by rw [upd_ne nb]; exact e2)
          · rintro σ H3 ⟨y2, ys, rfl, s3, hc, hys, _⟩
            rw [lx, List.take_length] at hys
            have toN : ∀ H5, Same H3 H5 → Same (Nw (upd H c (.lst [])) H3) (Nw H H5) := fun H5 s5 b o e => by
              obtain ⟨e1, e2⟩ := Nw.get e
              have nb : b ≠ c := fun z => by
                rw [z, upd_same] at e1
                cases e1
              rw [upd_ne nb] at e1
              exact Nw.mk e1 (s5 _ _ e2)
            refine ⟨_, rfl, .ref a, .ty "tuple", .type "list", .type "tuple", false, rfl, .ty "tuple", tyL (Same.seqL s3 hS), kit_ty (by decide +kernel), _, rfl, iteF ?_⟩
            exact ⟨_, rfl, q _ _ s3 (.lst (SqL.of (Nw.mk nc0 hc)) (dpAll_same (toN _ (Same.refl _)) hys))⟩
      | tup _ hlen hall =>
        rename_i ds
        cases hx with
        | tup hS hd =>
          rename_i a xs
          refine ⟨_, (pss_cons (ps_if (pt_not (pt_val (pe_callB call_isiT (by rfl) T.isinstance (by decide +kernel) (pa_cons (pv 0) (pa_cons (pe_tup (pa_cons (pe_bltn (v := .ty "list") rfl T.list (by decide +kernel) rfl) (pa_cons (pe_bltn (v := .ty "tuple") rfl T.tuple (by decide +kernel) rfl) pa_nil))) pa_nil)))))
                (pss_one (ps_ret (pv 0)))
                pss_nil)
              (pss_cons (ps_set (i := 1) sc_own_copy.nd rfl (Or.inl rfl) (pe_lst pa_nil))
              (pss_cons (ps_for PassesOwn.never rfl (pi_tup (pv 0)) (pg_name (i := 2) sc_own_copy.nd rfl (Or.inl rfl))
                (pss_one (ps_expr (pe_bm PySem.F.plainAttrs_list PySem.F.slot_list_append PySem.F.type_list_append mt_append (pv 1) (pa_cons (C8.pe_c cown_copy hr (by omega) (by rfl) (pa_cons (pv 2) pa_nil)) pa_nil)))))
              (pss_cons (ps_if (pt_val (pe_callB call_isi (by rfl) T.isinstance (by decide +kernel) (pa_cons (pv 0) (pa_cons (pe_bltn (v := .ty "tuple") rfl T.tuple (by decide +kernel) rfl) pa_nil))))
                (pss_one (ps_ret (pe_callTy call_tuple_of (by rfl) T.tuple (by decide +kernel) (pa_cons (pv 1) pa_nil))))
                pss_nil)
              (pss_one (ps_ret (pv 1))))))), ?_⟩
          have lx := dpAll_len hd
          refine ⟨_, rfl, by show 2 ≤ sizeLine; decide, fun tp nt => ?_⟩
          have s1 := same_upd (o := .tup [.ty "list", .ty "tuple"]) nt
          refine ⟨.ref a, tp, _, .type "tuple", [.type "list", .type "tuple"], true, rfl, upd_same, .cons (.ty "list") (.cons (.ty "tuple") .nil), tyT (Same.seqT s1 hS), kitLT2, _, rfl, iteF ?_⟩
          refine ⟨by show 0 ≤ sizeLine; decide, fun c nc => ?_⟩
          have s2 := s1.trans (same_upd (o := .lst []) nc)
          have nc0 : H c = none := s1.free nc
          refine ⟨_, rfl, a, rfl, ⟨_, Same.seqT s2 hS⟩, for_tup (K := K) (a := a) (xs := xs) (fun i σ H3 => ∃ y2 ys, σ = [some (.ref a), some (.ref c), y2] ∧ Same H H3 ∧ H3 c = some (.lst ys) ∧ DpAll K (Nw (upd H c (.lst [])) H3) ys (ds.take i) ∧ i ≤ ds.length)
            ⟨none, [], rfl, s2, upd_same, .nil, by omega⟩ (fun i σ H3 _ ⟨_, _, _, s3, _⟩ => Same.seqT s3 hS) ?_ ?_⟩
          · rintro i x σ H3 hxi ⟨y2, ys, rfl, s3, hc, hys, hi⟩
            obtain ⟨d, hdi, hdp⟩ := dpAll_at hd hxi
            have hi2 : i < ds.length := (List.getElem?_eq_some_iff.mp hdi).1
            have ly := dpAll_len hys
            rw [List.length_take] at ly
            refine ⟨_, rfl, .inl ⟨rfl, _, SqL.of hc⟩, _, rfl, x, d, rfl, dp_same s3 hdp, hall d (List.mem_of_getElem? hdi), fun H4 y s4 hy => ?_⟩
            refine ⟨c, ys, y, rfl, rfl, s4 _ _ hc, small1000 (by omega), ?_⟩
            refine ⟨_, ys ++ [y], rfl, fun b o e => ?_, upd_same, ?_, by omega⟩
            · rw [upd_ne (ne_of_none e nc0)]
              exact s4 _ _ (s3 _ _ e)
            · rw [List.take_add_one, hdi]
              refine dpAll_snoc (dpAll_same (fun b o e => ?_) hys) (dp_same (fun b o e => ?_) hy)
              · obtain ⟨e1, e2⟩ := Nw.get e
                have nb : b ≠ c := fun z => by
                  rw [z, upd_same] at e1
                  cases e1
                exact Nw.mk e1 (by rw [upd_ne nb]; exact s4 _ _ e2)
              · obtain ⟨e1, e2⟩ := Nw.get e
                have nb : b ≠ c := fun z => by
                  rw [z, hc] at e1
                  cases e1
                exact Nw.mk (by rw [upd_ne nb]; exact s3.free e1) (by rw [upd_ne nb]; exact e2)
          · rintro σ H3 ⟨y2, ys, rfl, s3, hc, hys, _⟩
            rw [lx, List.take_length] at hys
            have toN : ∀ H5, Same H3 H5 → Same (Nw (upd H c (.lst [])) H3) (Nw H H5) := fun H5 s5 b o e => by
              obtain ⟨e1, e2⟩ := Nw.get e
              have nb : b ≠ c := fun z => by
                rw [z, upd_same] at e1
                cases e1
              rw [upd_ne nb] at e1
              exact Nw.mk e1 (s5 _ _ e2)
            refine ⟨_, rfl, .ref a, .ty "tuple", .type "tuple", .type "tuple", true, rfl, .ty "tuple", tyT (Same.seqT s3 hS), kit_ty (by decide +kernel), _, rfl, iteT ?_⟩
            refine ⟨_, rfl, c, ys, rfl, .inl ⟨SqL.of hc, fun l nl => ?_⟩⟩
            exact q _ _ (s3.trans (same_upd nl)) (.tup (SqT.of (Nw.mk (s3.free nl) upd_same)) (dpAll_same (toN _ (same_upd nl)) hys))
end
/-! ### what is drawn: one of some, some in another order, numbers -/
theorem ifT {c : Bool} {A B : Prop} (h : c = true) (x : A) : if c = true then A else B := by rw [if_pos h]; exact x
theorem ifF {c : Bool} {A B : Prop} (h : c = false) (x : B) : if c = true then A else B := by rw [if_neg (by rw [h]; decide)]; exact x
theorem yesT {σ : L2.St} {H : Hp} {A B : Hp → Prop} (h : A H) : tYes σ H (fun b H3 => if b = true then A H3 else B H3) := by
  show (if true = true then A H else B H)
  exact iteT h
theorem Same.at_ {H0 H : Hp} {p : Addr} {o : HO} (s : Same H0 H) (n : H0 p = none) : Same H0 (upd H p o) := fun b x e => by
  rw [upd_ne (ne_of_none e n)]
  exact s b x e
theorem Same.new {H0 H : Hp} {p : Addr} {o : HO} (s : Same H0 H) (n : H p = none) : Same H0 (upd H p o) := s.trans (same_upd n)
theorem Same.but {H0 H H' : Hp} {a : Addr} (s : Same H0 H) (n : H0 a = none) (b : But a H H') : Same H0 H' := fun x o e => b x o (ne_of_none e n) (s x o e)
theorem BoxL.mono {n m : Nat} {b : List V} (h : BoxL n b) (l : n ≤ m) : BoxL m b := by
  obtain ⟨b0, b1, b2, e, h0, h1, h2, h3, h4⟩ := h
  exact ⟨b0, b1, b2, e, h0, h1, h2, h3, by omega⟩
theorem But.free {a b : Addr} {H H' : Hp} {o : HO} (x : But a H H') (ha : H' a = some o) (h : H' b = none) : H b = none := by
  cases e : H b with
  | none => rfl
  | some u =>
    by_cases z : b = a
    · rw [z, ha] at h
      cases h
    · rw [x b u z e] at h
      cases h
abbrev s__law_one_of : Stmt := top 15
abbrev N__law_one_of : List Str := ["_law_box", "_law_some"]
abbrev P__law_one_of : List Str := ["_law_box", "_law_some"]
theorem sc__law_one_of : FnScope N__law_one_of P__law_one_of (defScope s__law_one_of) := ⟨rfl, rfl, rfl, by decide +kernel, rfl, by decide +kernel, by decide +kernel⟩
abbrev s__law_strewn : Stmt := top 16
abbrev N__law_strewn : List Str := ["_law_box", "_law_some", "_law_found", "_law_one"]
abbrev P__law_strewn : List Str := ["_law_box", "_law_some"]
theorem sc__law_strewn : FnScope N__law_strewn P__law_strewn (defScope s__law_strewn) := ⟨rfl, rfl, rfl, by decide +kernel, rfl, by decide +kernel, by decide +kernel⟩
abbrev s__law_number : Stmt := top 18
abbrev N__law_number : List Str := ["_law_box"]
abbrev P__law_number : List Str := ["_law_box"]
theorem sc__law_number : FnScope N__law_number P__law_number (defScope s__law_number) := ⟨rfl, rfl, rfl, by decide +kernel, rfl, by decide +kernel, by decide +kernel⟩
def spOneOf (K : PySem.W.Frag) : Sp := fun vs H Q _ => ∃ (a sl : Addr) (m : Nat) (b xs : List V), vs = [.ref a, .ref sl] ∧ H a = some (.lst b) ∧ BoxL m b ∧ m < 900000 ∧ SqL K H sl xs ∧ sl ≠ a ∧ 0 < xs.length ∧ xs.length ≤ 1000 ∧
  ∀ (i : Nat) (v : V) (b' : List V), xs[i]? = some v → BoxL (m + 1) b' → Q v (upd H a (.lst b'))
def spStrewn (K : PySem.W.Frag) : Sp := fun vs H Q _ => ∃ (a sl : Addr) (m : Nat) (b xs : List V), vs = [.ref a, .ref sl] ∧ H a = some (.lst b) ∧ BoxL m b ∧ m + xs.length < 900000 ∧ SqL K H sl xs ∧ sl ≠ a ∧ xs.length ≤ 100000 ∧
  ∀ (H' : Hp) (l : Addr) (ys b' : List V), But a H H' → H l = none → H' l = some (.lst ys) → ys.Perm xs → H' a = some (.lst b') → BoxL (m + xs.length) b' → Q (.ref l) H'
def spNumber : Sp := fun vs H Q _ => ∃ (a : Addr) (m : Nat) (b : List V), vs = [.ref a] ∧ H a = some (.lst b) ∧ BoxL m b ∧ m + 4 < 900000 ∧
  ∀ (H' : Hp) (r : Int) (b' : List V), But a H H' → H' a = some (.lst b') → BoxL (m + 4) b' → 0 ≤ r → r < 1000000 → Q (.int r) H'
section
variable {P : Program} {w : World} {K : PySem.W.Frag} {mg : Str → Option Value} {base : Heap}
theorem ok_one_of (T : Bt mg) (c_law_take : C8.Cal P w K mg base 1 "_law_take" spTake []) (D : Dd K mg "_law_one_of" s__law_one_of P__law_one_of) : C8.Cal P w K mg base 2 "_law_one_of" (spOneOf K) [] := by
  refine D.cal sc__law_one_of (fun vs H Q E h => ?_) (fun f cdv A outer s H vs Q E hr h => ?_)
  · obtain ⟨a, sl, m, b, xs, rfl, _⟩ := h
    rfl
  · obtain ⟨a, sl, m, b, xs, rfl, ha, hB, hm, hS, ns, h0, h1, q⟩ := h
    refine ⟨_, (pss_one (ps_ret (pe_ix ix_list (pv 1) (C8.pe_c c_law_take hr (by decide) (by rfl) (pa_cons (pv 0) (pa_cons (pe_callB call_len_seq (by rfl) T.len PySem.boot_len (pa_cons (pv 1) pa_nil)) pa_nil))) (fun _ _ => rfl)))), ?_⟩
    refine ⟨_, rfl, _, rfl, _, rfl, sl, xs, rfl, .inl hS, a, xs.length, m, b, rfl, ha, hB, by omega, by omega, by omega, fun r b' r0 r1 hB' => ?_⟩
    obtain ⟨i, rfl⟩ : ∃ i : Nat, r = (i : Int) := ⟨r.toNat, by omega⟩
    have hi : i < xs.length := by omega
    exact ⟨sl, xs, _, xs[i], rfl, rfl, But.seq (But.upd (But.refl a H)) ns hS, atI_nat (j := i) (by simp [hi]), q i _ b' (by simp [hi]) hB'⟩
theorem ok_strewn (T : Bt mg) (c_law_take : C8.Cal P w K mg base 1 "_law_take" spTake []) (D : Dd K mg "_law_strewn" s__law_strewn P__law_strewn) : C8.Cal P w K mg base 2 "_law_strewn" (spStrewn K) [] := by
  refine D.cal sc__law_strewn (fun vs H Q E h => ?_) (fun f cdv A outer s H vs Q E hr h => ?_)
  · obtain ⟨a, sl, m, b, xs, rfl, _⟩ := h
    rfl
  · obtain ⟨a, sl, m, b, xs, rfl, ha, hB, hm, hS, ns, h1, q⟩ := h
    refine ⟨_, (pss_cons (ps_set (i := 2) sc__law_strewn.nd rfl (Or.inl rfl) (pe_lst pa_nil))
        (pss_cons (ps_for PassesOwn.never rfl (pi_list (pv 1)) (pg_name (i := 3) sc__law_strewn.nd rfl (Or.inl rfl))
          (pss_one (ps_expr (pe_bm PySem.F.plainAttrs_list PySem.F.slot_list_insert PySem.F.type_list_insert mt_insert (pv 2) (pa_cons (C8.pe_c c_law_take hr (by decide) (by rfl) (pa_cons (pv 0) (pa_cons (pe_op op_add (pe_callB call_len_seq (by rfl) T.len PySem.boot_len (pa_cons (pv 2) pa_nil)) pe_int) pa_nil))) (pa_cons (pv 3) pa_nil))))))
        (pss_one (ps_ret (pv 2))))), ?_⟩
    refine ⟨by show 0 ≤ sizeLine; decide, fun l nl => ?_⟩
    have nla : a ≠ l := ne_of_none ha nl
    have s1 := same_upd (o := .lst []) nl
    refine ⟨_, rfl, sl, rfl, ⟨_, (But.seq (a := a) (But.of s1) ns hS)⟩, for_list (K := K) (a := sl) (xs := xs) (fun i σ H3 => ∃ y ys b', σ = [some (.ref a), some (.ref sl), some (.ref l), y] ∧ But a H H3 ∧ H3 l = some (.lst ys) ∧ ys.Perm (xs.take i) ∧ H3 a = some (.lst b') ∧ BoxL (m + i) b' ∧ SqL K H3 sl xs ∧ i ≤ xs.length)
      ⟨none, [], b, rfl, But.of s1, upd_same, .nil, s1 _ _ ha, hB, (But.seq (a := a) (But.of s1) ns hS), Nat.zero_le _⟩ (fun i σ H3 _ ⟨_, _, _, _, _, _, _, _, _, h, _⟩ => h) ?_ ?_⟩
    · rintro i x σ H3 hx ⟨y, ys, b', rfl, bt, hl, hp, hb', hB', hS3, hi⟩
      have hi2 : i < xs.length := (List.getElem?_eq_some_iff.mp hx).1
      have ly : ys.length = i := by
        rw [hp.length_eq, List.length_take]
        omega
      refine ⟨_, rfl, .inl ⟨rfl, _, SqL.of hl⟩, _, rfl, _, rfl, l, ys, rfl, .inl (SqL.of hl), _, _, rfl, rfl, a, _, _, b', rfl, hb', hB', by omega, by omega, by omega, fun r b2 r0 r1 hB2 => ?_⟩
      have hl2 : (upd H3 a (.lst b2)) l = some (.lst ys) := by
        rw [upd_ne nla.symm]
        exact hl
      refine ⟨_, rfl, l, ys, r, x, rfl, rfl, hl2, by rw [ly]; exact Nat.lt_of_le_of_lt (Nat.le_of_lt hi2) (Nat.lt_of_le_of_lt h1 (by decide)), r0, by omega, ?_⟩
      have bt2 : But a H (upd (upd H3 a (.lst b2)) l (.lst (ys.take r.toNat ++ [x] ++ ys.drop r.toNat))) := fun c o nc hc => by
        rw [upd_ne (ne_of_none hc nl), upd_ne nc]
        exact bt _ _ nc hc
      refine ⟨_, _, b2, rfl, bt2, upd_same, ?_, by rw [upd_ne nla, upd_same], hB2, But.seq bt2 ns hS, by omega⟩
      rw [List.take_add_one, hx]
      refine List.Perm.trans ?_ (List.Perm.append hp (List.Perm.refl [x]))
      rw [List.append_assoc]
      refine List.Perm.trans (List.Perm.append_left _ List.perm_append_comm) ?_
      rw [← List.append_assoc, List.take_append_drop]
    · rintro σ H3 ⟨y, ys, b', rfl, bt, hl, hp, hb', hB', hS3, hi⟩
      rw [List.take_length] at hp
      exact ⟨_, rfl, q _ l ys b' bt nl hl hp hb' hB'⟩
theorem ok_number (c_law_take : C8.Cal P w K mg base 1 "_law_take" spTake []) (D : Dd K mg "_law_number" s__law_number P__law_number) : C8.Cal P w K mg base 2 "_law_number" spNumber [] := by
  refine D.cal sc__law_number (fun vs H Q E h => ?_) (fun f cdv A outer s H vs Q E hr h => ?_)
  · obtain ⟨a, m, b, rfl, _⟩ := h
    rfl
  · obtain ⟨a, m, b, rfl, ha, hB, hm, q⟩ := h
    refine ⟨_, (pss_one (ps_ret (pe_ix ix_list (pe_lst (pa_cons (C8.pe_c c_law_take hr (by decide) (by rfl) (pa_cons (pv 0) (pa_cons pe_int pa_nil))) (pa_cons (C8.pe_c c_law_take hr (by decide) (by rfl) (pa_cons (pv 0) (pa_cons pe_int pa_nil))) (pa_cons (C8.pe_c c_law_take hr (by decide) (by rfl) (pa_cons (pv 0) (pa_cons (pe_op op_pow pe_int pe_int) pa_nil))) pa_nil)))) (C8.pe_c c_law_take hr (by decide) (by rfl) (pa_cons (pv 0) (pa_cons pe_int pa_nil))) (fun _ _ => rfl)))), ?_⟩
    refine ⟨_, rfl, a, 4, m, b, rfl, ha, hB, by omega, by decide, by decide, fun r1 b1 r10 r11 hB1 => ?_⟩
    refine ⟨_, rfl, a, 30, m + 1, b1, rfl, upd_same, hB1, by omega, by decide, by decide, fun r2 b2 r20 r21 hB2 => ?_⟩
    refine ⟨_, rfl, _, _, rfl, rfl, ⟨by decide, by decide, by decide⟩, a, _, m + 2, b2, rfl, upd_same, hB2, by omega, by decide, by decide, fun r3 b3 r30 r31 hB3 => ?_⟩
    refine ⟨by show 3 ≤ sizeLine; decide, fun l nl => ?_⟩
    have nla : l ≠ a := fun z => by
      rw [z, upd_same] at nl
      cases nl
    refine ⟨_, rfl, a, 3, m + 3, b3, rfl, by rw [upd_ne nla.symm, upd_same], hB3, by omega, by decide, by decide, fun r4 b4 r40 r41 hB4 => ?_⟩
    have hl : (upd (upd (upd (upd (upd H a (.lst b1)) a (.lst b2)) a (.lst b3)) l (.lst [.int r1, .int r2, .int r3])) a (.lst b4)) l = some (.lst [.int r1, .int r2, .int r3]) := by
      rw [upd_ne nla, upd_same]
    have bt : But a H (upd (upd (upd (upd (upd H a (.lst b1)) a (.lst b2)) a (.lst b3)) l (.lst [.int r1, .int r2, .int r3])) a (.lst b4)) := But.upd (But.new (But.upd (But.upd (But.upd (But.refl a H)))) nl)
    have r31' : r3 < 1000000 := r31
    have hc : r4 = 0 ∨ r4 = 1 ∨ r4 = 2 := by omega
    rcases hc with rfl | rfl | rfl
    · exact ⟨l, _, _, _, rfl, rfl, SqL.of hl, atI_nat (j := 0) rfl, q _ _ b4 bt upd_same hB4 r10 (by omega)⟩
    · exact ⟨l, _, _, _, rfl, rfl, SqL.of hl, atI_nat (j := 1) rfl, q _ _ b4 bt upd_same hB4 r20 (by omega)⟩
    · exact ⟨l, _, _, _, rfl, rfl, SqL.of hl, atI_nat (j := 2) rfl, q _ _ b4 bt upd_same hB4 r30 r31'⟩
end
/-! ### names: unlike ones, NAMEs all -/
abbrev s__law_named : Stmt := top 17
abbrev N__law_named : List Str := ["_law_box", "_law_many", "_law_letters", "_law_found", "_law_words", "_law_k", "_law_name", "_law_turn"]
abbrev P__law_named : List Str := ["_law_box", "_law_many"]
theorem sc__law_named : FnScope N__law_named P__law_named (defScope s__law_named) := ⟨rfl, rfl, rfl, by decide +kernel, rfl, by decide +kernel, by decide +kernel⟩
def LET : Str := "abcdefghijklmnopqrstuvwxyz"
theorem let_lst : LET.cps.toList = [97, 98, 99, 100, 101, 102, 103, 104, 105, 106, 107, 108, 109, 110, 111, 112, 113, 114, 115, 116, 117, 118, 119, 120, 121, 122] := by decide +kernel
theorem let_nth {i : Nat} (h : i < 26) : LET.cps.toList[i]? = some (97 + i) := by
  rw [let_lst]
  have hc : i = 0 ∨ i = 1 ∨ i = 2 ∨ i = 3 ∨ i = 4 ∨ i = 5 ∨ i = 6 ∨ i = 7 ∨ i = 8 ∨ i = 9 ∨ i = 10 ∨ i = 11 ∨ i = 12 ∨ i = 13 ∨ i = 14 ∨ i = 15 ∨ i = 16 ∨ i = 17 ∨ i = 18 ∨ i = 19 ∨ i = 20 ∨ i = 21 ∨ i = 22 ∨ i = 23 ∨ i = 24 ∨ i = 25 := by omega
  rcases hc with rfl | rfl | rfl | rfl | rfl | rfl | rfl | rfl | rfl | rfl | rfl | rfl | rfl | rfl | rfl | rfl | rfl | rfl | rfl | rfl | rfl | rfl | rfl | rfl | rfl | rfl <;> rfl
/-- letters, one to six -/
def Wd (w : List Nat) : Prop := 1 ≤ w.length ∧ w.length ≤ 6 ∧ ∀ c ∈ w, isLet c = true
/-- a NAME -/
def NmOk (w : List Nat) : Prop := Wd w ∧ w ≠ OWNL
theorem join_nil : ∀ ps : List (List Nat), TL.joinL [] ps = ps.flatten := fun ps => by
  induction ps with
  | nil => rfl
  | cons p r ih =>
    cases r with
    | nil => simp [TL.joinL]
    | cons q r =>
      show p ++ ([] ++ TL.joinL [] (q :: r)) = _
      rw [ih]
      rfl
theorem sing_flat : ∀ cs : List Nat, (cs.map fun c => [c]).flatten = cs
  | [] => rfl
  | c :: cs => by
    rw [List.map_cons, List.flatten_cons, sing_flat cs]
    rfl
theorem s_emp : (("" : String) : Str) = SX.S [] := by decide +kernel
theorem s_own : (("own" : String) : Str) = SX.S OWNL := by decide +kernel
def WORDS : Str := "copy plus less over rest least same pick sort make rule cap kept at number lay put end ask tree"
theorem words_wd : (Txt.split WORDS " ").length = 20 ∧ ∀ z ∈ Txt.split WORDS " ", ∃ w, z = SX.S w ∧ Wd w := by
  have hall : (Txt.split WORDS " ").length = 20 ∧ (Txt.split WORDS " ").all (fun z => decide (1 ≤ z.cps.toList.length) && (decide (z.cps.toList.length ≤ 6) && z.cps.toList.all isLet)) = true := by decide +kernel
  refine ⟨hall.1, fun z hz => ⟨z.cps.toList, (SX.S_tl z).symm, ?_⟩⟩
  have hh := List.all_eq_true.mp hall.2 z hz
  simp only [Bool.and_eq_true, decide_eq_true_eq] at hh
  exact ⟨hh.1, hh.2.1, fun c hc => List.all_eq_true.mp hh.2.2 c hc⟩
theorem nodup_le {us f : List (List Nat)} (h : us.Nodup) (s : ∀ u ∈ us, u ∈ f) : us.length ≤ f.length := by
  induction us generalizing f with
  | nil => exact Nat.zero_le _
  | cons u us ih =>
    have hu := s u (List.mem_cons_self ..)
    rw [List.nodup_cons] at h
    have := ih (f := f.erase u) h.2 fun x hx => (List.mem_erase_of_ne (fun z => h.1 (by rw [← z]; exact hx))).mpr (s x (List.mem_cons_of_mem _ hx))
    rw [List.length_erase_of_mem hu] at this
    have : 0 < f.length := List.length_pos_of_mem hu
    rw [List.length_cons]
    omega
/-- another name in the place of one that is taken -/
def bend (w : List Nat) (j : Nat) : List Nat := w.take 4 ++ [97] ++ [97 + j]
theorem bend_wd {w : List Nat} {j : Nat} (h : Wd w) (hj : j < 26) : Wd (bend w j) := by
  unfold bend
  refine ⟨?_, ?_, fun c hc => ?_⟩
  · rw [List.length_append, List.length_append]
    show 1 ≤ _ + 1 + 1
    omega
  · rw [List.length_append, List.length_append, List.length_take]
    show _ + 1 + 1 ≤ 6
    omega
  · rw [List.mem_append, List.mem_append] at hc
    rcases hc with (hc | hc) | hc
    · exact h.2.2 c (List.mem_of_mem_take hc)
    · rw [List.mem_singleton.mp hc]
      rfl
    · rw [List.mem_singleton.mp hc]
      unfold isLet
      rw [decide_eq_true (by omega : 97 ≤ 97 + j), decide_eq_true (by omega : 97 + j ≤ 122)]
      rfl
theorem bend_last (w : List Nat) (j : Nat) : (bend w j).getLast? = some (97 + j) := by
  unfold bend
  rw [List.getLast?_append]
  rfl
theorem bend_own {w : List Nat} {j : Nat} : bend w j ≠ OWNL := fun z => by
  have e : (bend w j).reverse = OWNL.reverse := congrArg List.reverse z
  unfold bend OWNL at e
  rw [List.reverse_append, List.reverse_append] at e
  have e2 : (97 + j) :: 97 :: (w.take 4).reverse = [110, 119, 111] := e
  injection e2 with _ e3
  injection e3 with e4 _
  exact absurd e4 (by decide)
/-- what the turns leave: it is free, or so many were met -/
def Clash (f : List (List Nat)) (j : Nat) (w : List Nat) : Prop := (w ∉ f ∧ w ≠ OWNL) ∨ j = 0 ∨ ∃ us : List (List Nat), us.Nodup ∧ (∀ u ∈ us, u ∈ f ∧ ∃ i, i + 1 < j ∧ u.getLast? = some (97 + i)) ∧ us.length + 1 = j ∧ w.getLast? = some (97 + (j - 1)) ∧ w ≠ OWNL
theorem clash_step {f : List (List Nat)} {j : Nat} {w : List Nat} (h : Clash f j w) (hb : w ∈ f ∨ w = OWNL) : Clash f (j + 1) (bend w j) := by
  refine .inr (.inr ?_)
  rcases h with ⟨h1, h2⟩ | rfl | ⟨us, n1, n2, n3, n4, n5⟩
  · rcases hb with hb | hb
    · exact absurd hb h1
    · exact absurd hb h2
  · exact ⟨[], List.nodup_nil, (fun u hu => nomatch hu), rfl, bend_last _ _, bend_own⟩
  · have hw : w ∈ f := by
      rcases hb with hb | hb
      · exact hb
      · exact absurd hb n5
    refine ⟨w :: us, List.nodup_cons.mpr ⟨fun hm => ?_, n1⟩, fun u hu => ?_, by rw [List.length_cons]; omega, bend_last _ _, bend_own⟩
    · obtain ⟨_, i, hi, hl⟩ := n2 w hm
      rw [n4] at hl
      have := Option.some.inj hl
      omega
    · rcases List.mem_cons.mp hu with rfl | hu
      · exact ⟨hw, j - 1, by omega, n4⟩
      · obtain ⟨h1, i, hi, hl⟩ := n2 u hu
        exact ⟨h1, i, by omega, hl⟩
theorem clash_end {f : List (List Nat)} {w : List Nat} (h : Clash f (f.length + 2) w) : w ∉ f ∧ w ≠ OWNL := by
  rcases h with h | h | ⟨us, n1, n2, n3, _, _⟩
  · exact h
  · omega
  · have := nodup_le n1 fun u hu => (n2 u hu).1
    omega
def nmV (ws : List (List Nat)) : List V := ws.map fun w => V.str (SX.S w)
theorem in_names (w : List Nat) (ws : List (List Nat)) : inV (.str (SX.S w)) (nmV ws) = decide (w ∈ ws) := by
  induction ws with
  | nil => rfl
  | cons u ws ih =>
    show (eqV (.str (SX.S u)) (.str (SX.S w)) || inV (.str (SX.S w)) (nmV ws)) = _
    rw [ih]
    show ((SX.S u == SX.S w) || _) = _
    rw [SX.S_beq_eq, Bool.eq_iff_iff, Bool.or_eq_true, decide_eq_true_eq, decide_eq_true_eq, decide_eq_true_eq, List.mem_cons]
    exact ⟨fun h => h.elim (fun e => .inl e.symm) .inr, fun h => h.elim (fun e => .inl e.symm) .inr⟩
theorem flat_names (ws : List (List Nat)) : (nmV ws).all flatV = true := by
  induction ws with
  | nil => rfl
  | cons w ws ih =>
    show (true && (nmV ws).all flatV) = true
    rw [ih]
    rfl
theorem nmV_len (ws : List (List Nat)) : (nmV ws).length = ws.length := List.length_map _
def spNamed : Sp := fun vs H Q _ => ∃ (a : Addr) (many m : Nat) (b : List V), vs = [.ref a, .int many] ∧ many ≤ 20 ∧ H a = some (.lst b) ∧ BoxL m b ∧ m + 10 * many < 900000 ∧
  ∀ (H' : Hp) (l : Addr) (ws : List (List Nat)) (b' : List V), But a H H' → H l = none → H' l = some (.lst (nmV ws)) → ws.length = many → ws.Nodup → (∀ w ∈ ws, NmOk w) → H' a = some (.lst b') → BoxL (m + 10 * many) b' → Q (.ref l) H'
section
variable {P : Program} {w : World} {K : PySem.W.Frag} {mg : Str → Option Value} {base : Heap}
theorem ok_named (T : Bt mg) (c_law_take : C8.Cal P w K mg base 1 "_law_take" spTake []) (D : Dd K mg "_law_named" s__law_named P__law_named) : C8.Cal P w K mg base 2 "_law_named" spNamed [] := by
  refine D.cal sc__law_named (fun vs H Q E h => ?_) (fun f cdv A outer s H vs Q E hr h => ?_)
  · obtain ⟨a, many, m, b, rfl, _⟩ := h
    rfl
  · obtain ⟨a, many, m, b, rfl, hmany, ha, hB, hm, q⟩ := h
    refine ⟨_, (pss_cons (ps_asg (pe_tup (pa_cons pe_str (pa_cons (pe_lst pa_nil) pa_nil))) (pg_tup rfl (pgs_cons (pg_name (i := 2) sc__law_named.nd rfl (Or.inr rfl)) (pgs_cons (pg_name (i := 3) sc__law_named.nd rfl (Or.inl rfl)) pgs_nil))))
        (pss_cons (ps_set (i := 4) sc__law_named.nd rfl (Or.inl rfl) pe_str)
        (pss_cons (ps_for PassesOwn.never rfl (pi_range1 rfl T.range (pa_cons (pv 1) pa_nil)) (pg_name (i := 5) sc__law_named.nd rfl (Or.inl rfl))
          (pss_cons (ps_set (i := 6) sc__law_named.nd rfl (Or.inl rfl) (pe_bm PySem.F.plainAttrs_str PySem.F.slot_str_join PySem.F.type_str_join mt_join pe_str (pa_cons (pe_lc (own := [("_law_turn", 7)]) (by exact rfl) sc__law_named.nd (pi_range1 rfl T.range (pa_cons (pe_ix ix_list (pe_lst (pa_cons pe_int (pa_cons pe_int (pa_cons pe_int (pa_cons pe_int pa_nil))))) (C8.pe_c c_law_take hr (by decide) (by rfl) (pa_cons (pv 0) (pa_cons pe_int pa_nil))) (fun _ _ => rfl)) pa_nil)) (blkOk_by (own := [("_law_turn", 7)]) (N := N__law_named) (sc := defScope s__law_named) (by decide +kernel)) (fun _ _ _ _ _ => (pg_name (i := 7) sc__law_named.nd rfl (Or.inl rfl))) (fun _ _ _ _ _ => pts_nil) (fun _ _ _ _ _ => (pe_ix ix_str (pv 2) (C8.pe_c c_law_take hr (by decide) (by rfl) (pa_cons (pv 0) (pa_cons pe_int pa_nil))) (fun _ _ => rfl)))) pa_nil)))
        (C8.pss_cut (ps_if (pt_cmpR op_eq (C8.pe_c c_law_take hr (by decide) (by rfl) (pa_cons (pv 0) (pa_cons pe_int pa_nil))) pe_int (nomark _))
          (pss_one (ps_set (i := 6) sc__law_named.nd rfl (Or.inl rfl) (pe_ix ix_list (pe_bm PySem.F.plainAttrs_str PySem.F.slot_str_split PySem.F.type_str_split mt_split (pv 4) (pa_cons pe_str pa_nil)) (C8.pe_c c_law_take hr (by decide) (by rfl) (pa_cons (pv 0) (pa_cons pe_int pa_nil))) (fun _ _ => rfl))))
          pss_nil)
        (pss_cons (ps_for PassesOwn.never rfl (pi_range1 rfl T.range (pa_cons (pe_op op_add (pe_callB call_len_seq (by rfl) T.len PySem.boot_len (pa_cons (pv 3) pa_nil)) pe_int) pa_nil)) (pg_name (i := 7) sc__law_named.nd rfl (Or.inl rfl))
          (pss_one (ps_if (PW.pt (pw_or (pt_cmpR op_in_seq (pv 6) (pv 3) (by with_unfolding_all rfl)) (pw_or1 (pt_cmpR op_eq (pv 6) pe_str (nomark _)))))
          (pss_one (ps_set (i := 6) sc__law_named.nd rfl (Or.inl rfl) (pe_op op_add_str (pe_op op_add_str (pe_slice sl_str (pv 6) po_none (po_some pe_int)) (pe_ix ix_str (pv 2) (pe_op op_fdiv (pv 7) pe_int) (fun _ _ => rfl))) (pe_ix ix_str (pv 2) (pe_op op_mod (pv 7) pe_int) (fun _ _ => rfl)))))
          pss_nil)))
        (pss_one (ps_expr (pe_bm PySem.F.plainAttrs_list PySem.F.slot_list_append PySem.F.type_list_append mt_append (pv 3) (pa_cons (pv 6) pa_nil))))))))
        (pss_one (ps_ret (pv 3)))))), ?_⟩
    refine ⟨by show 0 ≤ sizeLine; decide, fun l nl => ⟨by show 2 ≤ sizeLine; decide, fun tp nt => ⟨tp, _, rfl, SqT.of upd_same, rfl, _, _, rfl, _, _, rfl, rfl, ?_⟩⟩⟩
    have nla : a ≠ l := ne_of_none ha nl
    have s1 := same_upd (o := .lst []) nl
    have s2 := same_upd (o := .tup [.str "abcdefghijklmnopqrstuvwxyz", .ref l]) nt
    have hl0 := s2 _ _ (upd_same (H := H) (a := l) (o := .lst []))
    have ha0 := s2 _ _ (s1 _ _ ha)
    have s12 := s1.trans s2
    obtain ⟨H0, e0⟩ : ∃ H0, H0 = upd (upd H l (.lst [])) tp (.tup [.str "abcdefghijklmnopqrstuvwxyz", .ref l]) := ⟨_, rfl⟩
    rw [← e0] at hl0 ha0 s12 ⊢
    refine ⟨_, rfl, _, rfl, by omega, by omega, ?_⟩
    refine for_range (lo := 0) (fun i σ H2 => ∃ y5 y6 y7 ws b', σ = [some (.ref a), some (.int many), some (.str LET), some (.ref l), some (.str WORDS), y5, y6, y7] ∧ But a H H2 ∧ H2 l = some (.lst (nmV ws)) ∧ ws.length = i ∧ ws.Nodup ∧ (∀ w ∈ ws, NmOk w) ∧ H2 a = some (.lst b') ∧ BoxL (m + 10 * i) b')
      ⟨none, none, none, [], b, rfl, But.of s12, hl0, rfl, List.nodup_nil, (fun z hz => nomatch hz), ha0, hB⟩ ?_ ?_
    · rintro i σ H2 hi ⟨y5, y6, y7, ws, b2, rfl, bt2, hl2, hzl, hnd, hws, hb2, hB2⟩
      rw [Int.zero_add]
      have hi' : i < 20 := by omega
      refine ⟨rfl, by show 4 ≤ sizeLine; decide, fun l4 n4 => ?_⟩
      have na4 : a ≠ l4 := ne_of_none hb2 n4
      refine ⟨_, rfl, a, 4, m + 10 * i, b2, rfl, same_upd n4 _ _ hb2, hB2, by omega, by decide, by decide, fun r4 b3 r40 r41 hB3 => ?_⟩
      obtain ⟨nn, hn1, hnn, hat⟩ : ∃ nn : Nat, 1 ≤ nn ∧ nn ≤ 6 ∧ atI [V.int 1, .int 2, .int 3, .int 6] r4 = some (.int nn) := by
        have hc : r4 = 0 ∨ r4 = 1 ∨ r4 = 2 ∨ r4 = 3 := by omega
        rcases hc with rfl | rfl | rfl | rfl
        · exact ⟨1, by decide, by decide, atI_nat (j := 0) rfl⟩
        · exact ⟨2, by decide, by decide, atI_nat (j := 1) rfl⟩
        · exact ⟨3, by decide, by decide, atI_nat (j := 2) rfl⟩
        · exact ⟨6, by decide, by decide, atI_nat (j := 3) rfl⟩
      refine ⟨l4, _, _, _, rfl, rfl, SqL.of (by rw [upd_ne na4.symm, upd_same]), hat, nn, rfl, by omega, by omega, fun D nD => ?_⟩
      have hl3 : (upd (upd H2 l4 (.lst [.int 1, .int 2, .int 3, .int 6])) a (.lst b3)) l = some (.lst (nmV ws)) := by
        rw [upd_ne nla.symm]
        exact same_upd n4 _ _ hl2
      have hb3 : (upd (upd H2 l4 (.lst [.int 1, .int 2, .int 3, .int 6])) a (.lst b3)) a = some (.lst b3) := upd_same
      have bt3 : But a H (upd (upd H2 l4 (.lst [.int 1, .int 2, .int 3, .int 6])) a (.lst b3)) := But.upd (But.new bt2 n4)
      obtain ⟨Z, eZ⟩ : ∃ Z, Z = upd (upd H2 l4 (.lst [.int 1, .int 2, .int 3, .int 6])) a (.lst b3) := ⟨_, rfl⟩
      rw [← eZ] at nD hl3 hb3 bt3 ⊢
      have nDa : a ≠ D := ne_of_none hb3 nD
      refine lc_range (lo := 0) (n := (nn : Int).toNat) (fun j H' => But a Z H' ∧ ∃ b' cs, H' a = some (.lst b') ∧ BoxL (m + 10 * i + 1 + j) b' ∧ H' D = some (.lst (nmV (cs.map fun c => [c]))) ∧ cs.length = j ∧ ∀ c ∈ cs, isLet c = true)
        ⟨But.of (same_upd nD), b3, [], by rw [upd_ne nDa]; exact hb3, hB3, upd_same, rfl, (fun z hz => nomatch hz)⟩ ?_ ?_
      · rintro j H4 hj ⟨bt4, b4, cs, hb4, hB4, hD4, hyl, hys⟩
        refine ⟨rfl, yesT ?_⟩
        refine ⟨_, rfl, _, rfl, a, 26, _, b4, rfl, hb4, hB4, by omega, by decide, by decide, fun r b5 r0 r1 hB5 => ?_⟩
        obtain ⟨k, rfl⟩ := Int.eq_ofNat_of_zero_le r0
        have hk : k < 26 := by omega
        refine ⟨LET, _, 97 + k, rfl, rfl, by decide +kernel, atI_nat (let_nth hk), ?_⟩
        refine ⟨_, by rw [upd_ne nDa.symm]; exact hD4, by rw [nmV_len, List.length_map, hyl]; exact small1000 (by omega), ?_, b5, cs ++ [97 + k], by rw [upd_ne nDa, upd_same], hB5, by rw [upd_same]; unfold nmV; rw [List.map_append, List.map_append]; rfl, by rw [List.length_append, hyl]; rfl, fun c hc => ?_⟩
        · refine fun x o nx hx => ?_
          rw [upd_ne (ne_of_none hx nD), upd_ne nx]
          exact bt4 _ _ nx hx
        · rcases List.mem_append.mp hc with h | h
          · exact hys c h
          · rw [List.mem_singleton.mp h]
            unfold isLet
            rw [decide_eq_true (by omega : 97 ≤ 97 + k), decide_eq_true (by omega : 97 + k ≤ 122)]
            rfl
      rintro H4 ⟨bt4, b4, cs, hb4, hB4, hD4, hyl, hys⟩
      have hy6 : cs.length ≤ 6 := by omega
      have hB4 := hB4.mono (show m + 10 * i + 1 + (nn : Int).toNat ≤ m + 10 * i + 7 by omega)
      have hD4' : H4 D = some (.lst (((cs.map fun c => [c]).map SX.S).map V.str)) := by
        rw [hD4]
        unfold nmV
        rw [List.map_map, List.map_map, List.map_map]
        rfl
      refine ⟨"", D, (cs.map fun c => [c]).map SX.S, rfl, rfl, .inl (SqL.of hD4'), ?_, ?_⟩
      · rw [SX.lens, List.map_map, show (("" : String) : Str).length = 0 from rfl, Nat.mul_zero, Nat.add_zero]
        have : ∀ l : List Nat, ((l.map ((fun x : List Nat => x.length) ∘ fun c => [c])).sum) = l.length := fun l => by
          induction l with
          | nil => rfl
          | cons c l ih =>
            rw [List.map_cons, List.sum_cons, ih, List.length_cons]
            show 1 + _ = _
            omega
        rw [this]
        omega
      have ejoin : Txt.join "" ((cs.map fun c => [c]).map SX.S) = SX.S cs := by
        rw [s_emp, SX.join_S, join_nil, sing_flat]
      rw [ejoin]
      have wd0 : Wd cs := ⟨by omega, hy6, hys⟩
      have hl4 := bt4 _ _ nla.symm hl3
      have btA := bt3.trans bt4
      refine ⟨fun σ H5 => ∃ z b5, σ = [some (.ref a), some (.int many), some (.str LET), some (.ref l), some (.str WORDS), some (.int i), some (.str (SX.S z)), y7] ∧ Wd z ∧ But a H H5 ∧ H5 l = some (.lst (nmV ws)) ∧ H5 a = some (.lst b5) ∧ BoxL (m + 10 * i + 9) b5, ?_, ?_⟩
      · refine ⟨_, rfl, a, 12, m + 10 * i + 7, b4, rfl, hb4, hB4, by omega, by decide, by decide, fun r b5 r0 r1 hB5 => ⟨rfl, _, rfl, ?_⟩⟩
        have hl5 : (upd H4 a (.lst b5)) l = some (.lst (nmV ws)) := by
          rw [upd_ne nla.symm]
          exact hl4
        have bt5 : But a H (upd H4 a (.lst b5)) := But.upd btA
        by_cases e : r = 0
        · refine ifT (decide_eq_true (by rw [e])) ?_
          refine ⟨_, rfl, rfl, WORDS, " ", rfl, rfl, rfl, by decide +kernel, fun p np => ?_⟩
          have npa : a ≠ p := fun z => by
            rw [← z, upd_same] at np
            cases np
          refine ⟨_, rfl, a, 20, m + 10 * i + 8, b5, rfl, same_upd np _ _ upd_same, hB5, by omega, by decide, by decide, fun r2 b6 r20 r21 hB6 => ?_⟩
          obtain ⟨w20, wnm⟩ := words_wd
          obtain ⟨k, rfl⟩ : ∃ k : Nat, r2 = (k : Int) := ⟨r2.toNat, by omega⟩
          have hk : k < (Txt.split WORDS " ").length := by
            rw [w20]
            omega
          obtain ⟨wd, ewd, hwd⟩ := wnm _ (List.getElem_mem hk)
          refine ⟨p, _, _, .str (Txt.split WORDS " ")[k], rfl, rfl, SqL.of (by rw [upd_ne npa.symm, upd_same]), atI_nat (j := k) (by rw [List.getElem?_map, List.getElem?_eq_getElem hk]; rfl), ?_⟩
          rw [ewd]
          exact ⟨wd, b6, rfl, hwd, But.upd (But.new bt5 np), by rw [upd_ne nla.symm]; exact same_upd np _ _ hl5, upd_same, hB6⟩
        · exact ifF (decide_eq_false fun z => e (V.int.inj z)) ⟨cs, b5, rfl, wd0, bt5, hl5, upd_same, hB5.mono (by omega)⟩
      · rintro σ H5 ⟨z0, b5, rfl, hz0, bt5, hl5, hb5, hB5⟩
        have hzl2 : ((nmV ws).length : Int) ≤ 20 := by
          rw [nmV_len]
          omega
        refine ⟨_, rfl, l, _, rfl, .inl (SqL.of hl5), _, _, rfl, rfl, _, rfl, by omega, by omega, ?_⟩
        refine for_range (lo := 0) (fun j σ H6 => H6 = H5 ∧ ∃ z y, σ = [some (.ref a), some (.int many), some (.str LET), some (.ref l), some (.str WORDS), some (.int i), some (.str (SX.S z)), y] ∧ Wd z ∧ Clash ws j z) ⟨rfl, z0, y7, rfl, hz0, .inr (.inl rfl)⟩ ?_ ?_
        · rintro j σ H6 hj ⟨rfl, z, y, rfl, hz, hcl⟩
          rw [Int.zero_add]
          have hj2 : j < 26 := by omega
          have ec : cutS (SX.S z) none (some 4) = SX.S (z.take 4) := by
            unfold cutS
            have hl : (SX.S z).length = z.length := SX.S_len z
            rw [HT.sIx_none, show HT.sIx (SX.S z).length (SX.S z).length (some (4 : Int)) = min 4 (SX.S z).length from HT.sIx_nat _ _ 4, hl, Nat.sub_zero]
            show SX.S ((z.drop 0).take (min 4 z.length)) = _
            rw [List.drop_zero]
            congr 1
            by_cases h4 : 4 ≤ z.length
            · rw [Nat.min_eq_left h4]
            · rw [Nat.min_eq_right (by omega), List.take_length, List.take_of_length_le (by omega)]
          have lz : (SX.S z).length ≤ sizeLine := by
            rw [SX.S_len]
            exact Nat.le_trans hz.2.1 (by decide)
          have l4 : (z.take 4).length ≤ 4 := by
            rw [List.length_take]
            omega
          -- the name is bent
          have bent : (w' : Bool) → w' = true → (z ∈ ws ∨ z = OWNL) → ∃ z' y', ([some (.ref a), some (.int many), some (.str LET), some (.ref l), some (.str WORDS), some (.int i), some (.str (SX.S (bend z j))), some (.int (j : Nat))] : L2.St) = [some (.ref a), some (.int many), some (.str LET), some (.ref l), some (.str WORDS), some (.int i), some (.str (SX.S z')), y'] ∧ Wd z' ∧ Clash ws (j + 1) z' :=
            fun _ _ hb => ⟨bend z j, _, rfl, bend_wd hz hj2, clash_step hcl hb⟩
          have e97 : (SX.S (z.take 4) ++ ⟨#[97]⟩ ++ ⟨#[97 + j]⟩ : Str) = SX.S (bend z j) := by
            show SX.S (z.take 4) ++ SX.S [97] ++ SX.S [97 + j] = _
            rw [SX.S_cat, SX.S_cat]
            rfl
          have at1 : atI LET.cps.toList ((j : Int) / 26) = some 97 := by
            rw [show (j : Int) / 26 = ((0 : Nat) : Int) by omega]
            exact atI_nat (let_nth (by decide))
          have at2 : atI LET.cps.toList ((j : Int) % 26) = some (97 + j) := by
            rw [show (j : Int) % 26 = ((j : Nat) : Int) by omega]
            exact atI_nat (let_nth hj2)
          have s97 : (⟨#[97]⟩ : Str).length = 1 := rfl
          have s97j : (⟨#[97 + j]⟩ : Str).length = 1 := rfl
          have f1 : (cutS (SX.S z) none (some 4)).length + (⟨#[97]⟩ : Str).length ≤ sizeLine := by
            rw [ec, SX.S_len, s97]
            exact Nat.le_trans (show _ ≤ 7 by omega) (by decide)
          have f2 : (cutS (SX.S z) none (some 4) ++ ⟨#[97]⟩).length + (⟨#[97 + j]⟩ : Str).length ≤ sizeLine := by
            rw [strLen_append, ec, SX.S_len, s97, s97j]
            exact Nat.le_trans (show _ ≤ 7 by omega) (by decide)
          refine ⟨_, rfl, _, rfl, l, _, rfl, .inl (SqL.of hl5), rfl, flat_names ws, _, rfl, ?_⟩
          show if inV (.str (SX.S z)) (nmV ws) = true then _ else _
          rw [in_names]
          by_cases hin : z ∈ ws
          · refine ifT (decide_eq_true hin) (iteT ?_)
            refine ⟨_, rfl, 4, rfl, SX.S z, rfl, lz, ?_⟩
            refine ⟨_, rfl, _, rfl, _, _, rfl, rfl, ⟨by show (0 : Int) < 26; decide, by decide⟩, LET, _, 97, rfl, rfl, by decide +kernel, at1, _, _, rfl, rfl, f1, ?_⟩
            refine ⟨_, rfl, _, rfl, _, _, rfl, rfl, (by show (0 : Int) < 26; decide), LET, _, 97 + j, rfl, rfl, by decide +kernel, at2, _, _, rfl, rfl, f2, ?_⟩
            rw [ec, e97]
            exact ⟨rfl, bent true rfl (.inl hin)⟩
          · refine ifF (decide_eq_false hin) ?_
            refine ⟨_, rfl, rfl, _, rfl, ?_⟩
            by_cases ho : z = OWNL
            · refine ifT (decide_eq_true (by rw [ho, s_own])) ?_
              refine ⟨_, rfl, 4, rfl, SX.S z, rfl, lz, ?_⟩
              refine ⟨_, rfl, _, rfl, _, _, rfl, rfl, ⟨by show (0 : Int) < 26; decide, by decide⟩, LET, _, 97, rfl, rfl, by decide +kernel, at1, _, _, rfl, rfl, f1, ?_⟩
              refine ⟨_, rfl, _, rfl, _, _, rfl, rfl, (by show (0 : Int) < 26; decide), LET, _, 97 + j, rfl, rfl, by decide +kernel, at2, _, _, rfl, rfl, f2, ?_⟩
              rw [ec, e97]
              exact ⟨rfl, bent true rfl (.inr ho)⟩
            · refine ifF (decide_eq_false fun y => ho (by rw [s_own] at y; exact SX.S_inj (V.str.inj y))) ⟨rfl, z, _, rfl, hz, .inl ⟨hin, ho⟩⟩
        · rintro σ H6 ⟨rfl, z, y, rfl, hz, hcl⟩
          have hcl : Clash ws (ws.length + 2) z := by
            have e : ((nmV ws).length : Int) + 2 = ((ws.length + 2 : Nat) : Int) := by
              rw [nmV_len]
              omega
            have hcl2 : Clash ws (((nmV ws).length : Int) + 2).toNat z := hcl
            rw [e, Int.toNat_natCast] at hcl2
            exact hcl2
          obtain ⟨hfree, hown⟩ := clash_end hcl
          refine ⟨_, rfl, .inl ⟨rfl, _, SqL.of hl5⟩, _, rfl, l, _, .str (SX.S z), rfl, rfl, hl5, by rw [nmV_len]; exact small1000 (by omega), ?_⟩
          refine ⟨_, _, _, ws ++ [z], b5, rfl, ?_, by rw [upd_same]; unfold nmV; rw [List.map_append]; rfl, by rw [List.length_append, hzl]; rfl, ?_, fun x hx => ?_, by rw [upd_ne nla]; exact hb5, hB5.mono (by omega)⟩
          · refine fun x o nx hx => ?_
            rw [upd_ne (ne_of_none hx nl)]
            exact bt5 _ _ nx hx
          · rw [List.nodup_append]
            exact ⟨hnd, by simp, fun x hx y hy => by
              rw [List.mem_singleton.mp hy]
              exact fun e => hfree (e ▸ hx)⟩
          · rcases List.mem_append.mp hx with h | h
            · exact hws x h
            · rw [List.mem_singleton.mp h]
              exact ⟨hz, hown⟩
    · rintro σ H2 ⟨y5, y6, y7, ws, b2, rfl, bt2, hl2, hzl, hnd, hws, hb2, hB2⟩
      exact ⟨_, rfl, q _ l ws b2 bt2 nl hl2 hzl hnd hws hb2 hB2⟩
end
/-! ### data without lists stand wherever tuples stand -/
def TupO (o : HO) : Prop := (∃ xs, o = .tup xs) ∨ ∃ o' v, o = .frz o' v
def KeepT (H H' : Hp) : Prop := ∀ c o, TupO o → H c = some o → H' c = some o
theorem lst_no {xs : List V} : ¬ TupO (.lst xs) := by
  rintro (⟨ys, z⟩ | ⟨o', v, z⟩) <;> cases z
theorem dK_no {xs : List (Key × V)} : ¬ TupO (.dK xs) := by
  rintro (⟨ys, z⟩ | ⟨o', v, z⟩) <;> cases z
theorem KeepT.refl (H : Hp) : KeepT H H := fun _ _ _ h => h
theorem KeepT.trans {H H1 H2 : Hp} (x : KeepT H H1) (y : KeepT H1 H2) : KeepT H H2 := fun c o t h => y c o t (x c o t h)
theorem KeepT.of {H H' : Hp} (s : Same H H') : KeepT H H' := fun c o _ h => s c o h
theorem KeepT.but {H H' : Hp} {a : Addr} {xs : List V} (ha : H a = some (.lst xs)) (b : But a H H') : KeepT H H' := fun c o t h => b c o (fun z => by
  rw [z, ha] at h
  cases h
  exact lst_no t) h
theorem KeepT.at_ {H : Hp} {a : Addr} {o0 o : HO} (ha : H a = some o0) (n : ¬ TupO o0) : KeepT H (upd H a o) := fun c x t h => by
  rw [upd_ne (fun z => by
    rw [z, ha] at h
    cases h
    exact n t)]
  exact h
theorem KeepT.new {H : Hp} {p : Addr} {o : HO} (n : H p = none) : KeepT H (upd H p o) := KeepT.of (same_upd n)
mutual
def imm : PyData → Bool
  | .tuple ds => immAll ds
  | .list _ => false
  | .dict _ => false
  | .none => true
  | .bool _ => true
  | .int _ => true
  | .str _ => true
def immAll : List PyData → Bool
  | [] => true
  | d :: ds => imm d && immAll ds
end
section
variable {K : PySem.W.Frag} {H H' : Hp}
theorem KeepT.seqT {a : Addr} {xs : List V} (k : KeepT H H') (h : SqT K H a xs) : SqT K H' a xs := by
  rcases h with (h | ⟨o, h⟩) | h
  · exact .inl (.inl (k _ _ (.inl ⟨_, rfl⟩) h))
  · exact .inl (.inr ⟨o, k _ _ (.inr ⟨_, _, rfl⟩) h⟩)
  · exact .inr h
mutual
theorem dp_imm (k : KeepT H H') : ∀ {v : V} {d : PyData}, Dp K H v d → imm d = true → Dp K H' v d
  | _, _, .non, _ => .non
  | _, _, .bl b, _ => .bl b
  | _, _, .int i, _ => .int i
  | _, _, .str x, _ => .str x
  | _, _, .lst h a, i => nomatch (show (false : Bool) = true from i)
  | _, _, .tup h a, i => .tup (k.seqT h) (dpAll_imm k a i)
theorem dpAll_imm (k : KeepT H H') : ∀ {vs : List V} {ds : List PyData}, DpAll K H vs ds → immAll ds = true → DpAll K H' vs ds
  | _, _, .nil, _ => .nil
  | _, _, .cons h a, i => .cons (dp_imm k h (Bool.and_eq_true_iff.mp i).1) (dpAll_imm k a (Bool.and_eq_true_iff.mp i).2)
end
end
theorem immAll_app : ∀ {ds es : List PyData}, immAll ds = true → immAll es = true → immAll (ds ++ es) = true
  | [], _, _, h => h
  | d :: ds, es, h, k => by
    obtain ⟨h1, h2⟩ := Bool.and_eq_true_iff.mp h
    show (imm d && immAll (ds ++ es)) = true
    rw [h1, immAll_app h2 k]
    rfl
theorem immAll_map {α : Type} {f : α → PyData} (h : ∀ a, imm (f a) = true) : ∀ l : List α, immAll (l.map f) = true
  | [] => rfl
  | a :: l => by
    show (imm (f a) && immAll (l.map f)) = true
    rw [h a, immAll_map h l]
    rfl
theorem dpAll_appI {K : PySem.W.Frag} {H : Hp} : ∀ {vs ws : List V} {ds es : List PyData}, DpAll K H vs ds → DpAll K H ws es → DpAll K H (vs ++ ws) (ds ++ es)
  | _, _, _, _, .nil, h => h
  | _, _, _, _, .cons h a, k => .cons h (dpAll_appI a k)
/-! ### slices by whole numbers -/
theorem cutV_to (xs : List V) (k : Nat) : cutV xs none (some (k : Int)) = xs.take k := by
  unfold cutV
  rw [HT.sIx_none, show HT.sIx xs.length xs.length (some (k : Int)) = min k xs.length from HT.sIx_nat _ _ k, List.drop_zero, Nat.sub_zero]
  by_cases h : k ≤ xs.length
  · rw [Nat.min_eq_left h]
  · rw [Nat.min_eq_right (by omega), List.take_length, List.take_of_length_le (by omega)]
theorem cutV_from (xs : List V) (i : Nat) : cutV xs (some (i : Int)) none = xs.drop i := by
  unfold cutV
  rw [HT.sIx_none, show HT.sIx xs.length 0 (some (i : Int)) = min i xs.length from HT.sIx_nat _ _ i]
  by_cases h : i ≤ xs.length
  · rw [Nat.min_eq_left h, List.take_of_length_le (by rw [List.length_drop]; exact Nat.le_refl _)]
  · rw [List.drop_eq_nil_of_le (by omega : xs.length ≤ min i xs.length), List.take_nil, List.drop_eq_nil_of_le (by omega)]
theorem cutV_nat (xs : List V) (i k : Nat) : cutV xs (some (i : Int)) (some (k : Int)) = (xs.drop i).take (k - i) := by
  unfold cutV
  rw [show HT.sIx xs.length 0 (some (i : Int)) = min i xs.length from HT.sIx_nat _ _ i, show HT.sIx xs.length xs.length (some (k : Int)) = min k xs.length from HT.sIx_nat _ _ k]
  by_cases hi : i ≤ xs.length
  · rw [Nat.min_eq_left hi]
    by_cases hk : k ≤ xs.length
    · rw [Nat.min_eq_left hk]
    · rw [Nat.min_eq_right (by omega), List.take_of_length_le (by rw [List.length_drop]; omega), List.take_of_length_le (by rw [List.length_drop]; omega)]
  · rw [List.drop_eq_nil_of_le (by omega : xs.length ≤ min i xs.length), List.drop_eq_nil_of_le (by omega : xs.length ≤ i), List.take_nil, List.take_nil]
theorem perm_map {α : Type} {f : α → V} : ∀ {ys xs : List V}, ys.Perm xs → ∀ us : List α, xs = us.map f → ∃ ws : List α, ys = ws.map f ∧ ws.Perm us := by
  intro ys xs h
  induction h with
  | nil =>
    intro us e
    exact ⟨[], rfl, by rw [List.map_eq_nil_iff.mp e.symm]⟩
  | cons x _ ih =>
    intro us e
    cases us with
    | nil => cases e
    | cons u us =>
      injection e with e1 e2
      obtain ⟨ws, h1, h2⟩ := ih us e2
      exact ⟨u :: ws, by rw [h1, e1]; rfl, h2.cons u⟩
  | swap x y l =>
    intro us e
    cases us with
    | nil => cases e
    | cons u us =>
      cases us with
      | nil =>
        injection e with _ e2
        cases e2
      | cons u2 us =>
        injection e with e1 e2
        injection e2 with e2 e3
        exact ⟨u2 :: u :: us, by rw [e1, e2, e3]; rfl, .swap u u2 us⟩
  | trans _ _ ih1 ih2 =>
    intro us e
    obtain ⟨ws, h1, h2⟩ := ih2 us e
    obtain ⟨vs, h3, h4⟩ := ih1 ws h1
    exact ⟨vs, h3, h4.trans h2⟩
/-! ### sorts drawn -/
abbrev s__law_sort_rows : Stmt := top 19
abbrev N__law_sort_rows : List Str := ["_law_box", "_law_many", "_law_names", "_law_rows", "_law_k", "_law_some", "_law_cut"]
abbrev P__law_sort_rows : List Str := ["_law_box", "_law_many"]
theorem sc__law_sort_rows : FnScope N__law_sort_rows P__law_sort_rows (defScope s__law_sort_rows) := ⟨rfl, rfl, rfl, by decide +kernel, rfl, by decide +kernel, by decide +kernel⟩
def strD (w : List Nat) : PyData := .str (SX.S w)
structure SRow where
  nm : List Nat
  dn : List (List Nat)
  up : List (List Nat)
def SRow.d (r : SRow) : PyData := .tuple [strD r.nm, .tuple (r.dn.map strD), .tuple (r.up.map strD)]
structure SOk (r : SRow) : Prop where
  nm : NmOk r.nm
  all : ∀ w ∈ r.dn ++ r.up, NmOk w
  nd : (r.dn ++ r.up).Nodup
  d2 : r.dn.length ≤ 2
  u2 : r.up.length ≤ 2
structure SortsOk (rs : List SRow) : Prop where
  ok : ∀ r ∈ rs, SOk r
  nd : (rs.map SRow.nm).Nodup
  le : rs.length ≤ 4
theorem strD_imm (w : List Nat) : imm (strD w) = true := rfl
theorem SRow.imm (r : SRow) : Thr.imm r.d = true := by
  show (true && (immAll (r.dn.map strD) && (immAll (r.up.map strD) && true))) = true
  rw [immAll_map strD_imm, immAll_map strD_imm]
  rfl
theorem nm_dp {K : PySem.W.Frag} {H : Hp} : ∀ ws : List (List Nat), DpAll K H (nmV ws) (ws.map strD)
  | [] => .nil
  | w :: ws => .cons (.str _) (nm_dp ws)
theorem nmV_take (ws : List (List Nat)) (k : Nat) : (nmV ws).take k = nmV (ws.take k) := List.map_take.symm
theorem nmV_drop (ws : List (List Nat)) (k : Nat) : (nmV ws).drop k = nmV (ws.drop k) := List.map_drop.symm
theorem nmV_at {ws : List (List Nat)} {i : Nat} {w : List Nat} (h : ws[i]? = some w) : (nmV ws)[i]? = some (.str (SX.S w)) := by
  unfold nmV
  rw [List.getElem?_map, h]
  rfl
def spSortRows (K : PySem.W.Frag) : Sp := fun vs H Q _ => ∃ (a : Addr) (many m : Nat) (b : List V), vs = [.ref a, .int many] ∧ 1 ≤ many ∧ many ≤ 4 ∧ H a = some (.lst b) ∧ BoxL m b ∧ m + 300 < 900000 ∧
  ∀ (H' : Hp) (l : Addr) (vs' : List V) (rs : List SRow) (b' : List V), But a H H' → H l = none → H' l = some (.lst vs') → DpAll K H' vs' (rs.map SRow.d) → rs.length = many → SortsOk rs → H' a = some (.lst b') → BoxL (m + 300) b' → Q (.ref l) H'
structure So (mg : Str → Option Value) : Prop where
  range : mg "range" = none
  tuple : mg "tuple" = none
section
variable {P : Program} {w : World} {K : PySem.W.Frag} {mg : Str → Option Value} {base : Heap}
theorem ok_sort_rows (T : So mg) (c_law_take : C8.Cal P w K mg base 1 "_law_take" spTake []) (c_law_named : C8.Cal P w K mg base 2 "_law_named" spNamed []) (c_law_strewn : C8.Cal P w K mg base 2 "_law_strewn" (spStrewn K) [])
    (D : Dd K mg "_law_sort_rows" s__law_sort_rows P__law_sort_rows) : C8.Cal P w K mg base 3 "_law_sort_rows" (spSortRows K) [] := by
  refine D.cal sc__law_sort_rows (fun vs H Q E h => ?_) (fun f cdv A outer s H vs Q E hr h => ?_)
  · obtain ⟨a, many, m, b, rfl, _⟩ := h
    rfl
  · obtain ⟨a, many, m, b, rfl, hm1, hm4, ha, hB, hm, q⟩ := h
    refine ⟨_, (pss_cons (ps_par rfl sc__law_sort_rows.nd (i := 2) (j := 3) rfl rfl (by decide) rfl rfl (pa_cons (C8.pe_c c_law_named hr (by decide) (by rfl) (pa_cons (pv 0) (pa_cons (pe_op op_add (pv 1) pe_int) pa_nil))) (pa_cons (pe_lst pa_nil) pa_nil)) (by rfl))
        (pss_cons (ps_for PassesOwn.never rfl (pi_range1 rfl T.range (pa_cons (pv 1) pa_nil)) (pg_name (i := 4) sc__law_sort_rows.nd rfl (Or.inl rfl))
          (C8.pss_cut (ps_set (i := 5) sc__law_sort_rows.nd rfl (Or.inl rfl) (pe_ifExp (pt_cmpR op_eq (C8.pe_c c_law_take hr (by decide) (by rfl) (pa_cons (pv 0) (pa_cons pe_int pa_nil))) pe_int (nomark _)) (pe_slice sl_list (C8.pe_c c_law_strewn hr (by decide) (by rfl) (pa_cons (pv 0) (pa_cons (pe_slice sl_list (pv 2) (po_some (pv 1)) po_none) pa_nil))) po_none (po_some pe_int)) (pe_slice sl_list (pe_slice sl_list (pv 2) (po_some (pe_op op_add (pv 1) (pe_op op_mul pe_int (pv 4)))) po_none) po_none (po_some pe_int))))
        (pss_cons (ps_set (i := 6) sc__law_sort_rows.nd rfl (Or.inl rfl) (C8.pe_c c_law_take hr (by decide) (by rfl) (pa_cons (pv 0) (pa_cons pe_int pa_nil))))
        (pss_one (ps_expr (pe_bm PySem.F.plainAttrs_list PySem.F.slot_list_append PySem.F.type_list_append mt_append (pv 3) (pa_cons (pe_tup (pa_cons (pe_ix ix_list (pv 2) (pv 4) (fun _ _ => rfl)) (pa_cons (pe_callTy call_tuple_of (by rfl) T.tuple (by decide +kernel) (pa_cons (pe_slice sl_list (pv 5) po_none (po_some (pv 6))) pa_nil)) (pa_cons (pe_callTy call_tuple_of (by rfl) T.tuple (by decide +kernel) (pa_cons (pe_slice sl_list (pv 5) (po_some (pv 6)) (po_some (pe_op op_add (pe_op op_add (pv 6) pe_int) (C8.pe_c c_law_take hr (by decide) (by rfl) (pa_cons (pv 0) (pa_cons pe_int pa_nil)))))) pa_nil)) pa_nil)))) pa_nil)))))))
        (pss_one (ps_ret (pv 3))))), ?_⟩
    refine ⟨_, rfl, _, rfl, _, _, rfl, rfl, a, many + 8, m, b, rfl, by omega, ha, hB, by omega, fun H1 ln ws b1 bt1 nln hln hwl hnd hws hb1 hB1 => ?_⟩
    refine ⟨by show 0 ≤ sizeLine; decide, fun l nl => ⟨_, _, rfl, ?_⟩⟩
    have g1 := same_upd (o := .lst []) nl
    have nla : l ≠ a := fun z => by
      rw [z, hb1] at nl
      cases nl
    have nlna : ln ≠ a := fun z => by
      rw [z, ha] at nln
      cases nln
    have nll : l ≠ ln := fun z => by
      rw [z, hln] at nl
      cases nl
    have nlH : H l = none := But.free bt1 hb1 nl
    refine ⟨_, rfl, _, rfl, by omega, by omega, ?_⟩
    refine for_range (lo := 0) (fun i σ X => ∃ y4 y5 y6 vs rs b', σ = [some (.ref a), some (.int many), some (.ref ln), some (.ref l), y4, y5, y6] ∧ But a H X ∧ X ln = some (.lst (nmV ws)) ∧ X l = some (.lst vs) ∧ DpAll K X vs (rs.map SRow.d) ∧ rs.length = i ∧ (∀ r ∈ rs, SOk r) ∧ rs.map SRow.nm = ws.take i ∧ X a = some (.lst b') ∧ BoxL (m + 10 * (many + 8) + 20 * i) b')
      ⟨none, none, none, [], [], b1, rfl, bt1.trans (But.of g1), g1 _ _ hln, upd_same, .nil, rfl, (fun r h => nomatch h), rfl, g1 _ _ hb1, hB1⟩ ?_ ?_
    · rintro i σ X hi ⟨y4, y5, y6, vs, rs, b2, rfl, btX, hlnX, hlX, hdX, hrl, hrs, hrn, hbX, hBX⟩
      rw [Int.zero_add]
      have hi4 : i < many := by omega
      have kX : ∀ {Y : Hp}, But a X Y → KeepT X Y := fun {Y} z => KeepT.but hbX z
      refine ⟨fun σ Y => ∃ ls us b3, σ = [some (.ref a), some (.int many), some (.ref ln), some (.ref l), some (.int (i : Nat)), some (.ref ls), y6] ∧ But a X Y ∧ Y ls = some (.lst (nmV us)) ∧ X ls = none ∧ us.Nodup ∧ (∀ w ∈ us, w ∈ ws) ∧ us.length ≤ 3 ∧ Y a = some (.lst b3) ∧ BoxL (m + 10 * (many + 8) + 20 * i + 15) b3, ?_, ?_⟩
      · refine ⟨_, rfl, a, 2, _, b2, rfl, hbX, hBX, by omega, by decide, by decide, fun r b3 r0 r1 hB3 => ⟨rfl, _, rfl, ?_⟩⟩
        have bX1 : But a X (upd X a (.lst b3)) := But.upd (But.refl a X)
        have ha1 : (upd X a (.lst b3)) a = some (.lst b3) := upd_same
        have hln1 := bX1 _ _ nlna hlnX
        obtain ⟨X1, e1⟩ : ∃ X1, X1 = upd X a (.lst b3) := ⟨_, rfl⟩
        rw [← e1] at bX1 ha1 hln1 ⊢
        by_cases h0 : r = 0
        · refine ifT (decide_eq_true (by rw [h0])) ?_
          refine ⟨_, rfl, _, rfl, _, rfl, _, rfl, ln, _, rfl, SqL.of hln1, fun c nc => ?_⟩
          rw [cutV_from, nmV_drop] 
          have g2 := same_upd (o := .lst (nmV (ws.drop many))) nc
          have nca : c ≠ a := fun z => by
            rw [z, ha1] at nc
            cases nc
          have ld : (nmV (ws.drop many)).length = 8 := by
            rw [nmV_len, List.length_drop]
            omega
          refine ⟨a, c, _, b3, _, rfl, g2 _ _ ha1, hB3, by omega, SqL.of upd_same, nca, by omega, fun Y ls0 ys b4 bt4 nls hls hperm hb4 hB4 => ?_⟩
          obtain ⟨us, eus, hp⟩ := perm_map hperm (ws.drop many) rfl
          have eus : ys = nmV us := eus
          subst eus
          refine ⟨3, rfl, ls0, _, rfl, SqL.of hls, fun c2 nc2 => ?_⟩
          have bXY : But a X Y := bX1.trans ((But.of g2).trans bt4)
          have hnd2 : us.Nodup := hp.nodup_iff.mpr (hnd.sublist (List.drop_sublist _ _))
          refine ⟨c2, us.take 3, b4, rfl, bXY.trans (But.of (same_upd nc2)), ?_, ?_, hnd2.sublist (List.take_sublist _ _), fun w hw => List.mem_of_mem_drop (hp.mem_iff.mp (List.mem_of_mem_take hw)), by rw [List.length_take]; omega, same_upd nc2 _ _ hb4, hB4.mono (by rw [ld]; omega)⟩
          · rw [upd_same, show (3 : Int) = ((3 : Nat) : Int) from rfl, cutV_to, nmV_take]
          · exact But.free bXY hb4 nc2
        · refine ifF (decide_eq_false fun y => h0 (V.int.inj y)) ?_
          refine ⟨_, rfl, _, rfl, _, rfl, _, _, rfl, rfl, .inl ⟨by decide, by decide⟩, _, _, rfl, rfl, _, rfl, ln, _, rfl, SqL.of hln1, fun c nc => ?_⟩
          have ec : cutV (nmV ws) (some ((many : Int) + 2 * (i : Int))) none = nmV (ws.drop (many + 2 * i)) := by
            rw [show (many : Int) + 2 * (i : Int) = ((many + 2 * i : Nat) : Int) by omega, cutV_from, nmV_drop]
          have g2 := same_upd (o := .lst (cutV (nmV ws) (some ((many : Int) + 2 * (i : Int))) none)) nc
          refine ⟨3, rfl, c, _, rfl, SqL.of upd_same, fun c2 nc2 => ?_⟩
          have bXY := bX1.trans (But.of (a := a) g2)
          refine ⟨c2, (ws.drop (many + 2 * i)).take 3, b3, rfl, bXY.trans (But.of (same_upd nc2)), ?_, ?_, (hnd.sublist (List.drop_sublist _ _)).sublist (List.take_sublist _ _), fun w hw => List.mem_of_mem_drop (List.mem_of_mem_take hw), by rw [List.length_take]; omega, same_upd nc2 _ _ (g2 _ _ ha1), hB3.mono (by omega)⟩
          · rw [upd_same, ec, show (3 : Int) = ((3 : Nat) : Int) from rfl, cutV_to, nmV_take]
          · exact But.free bXY (g2 _ _ ha1) nc2
      rintro σ Y ⟨ls, us, b3, rfl, bXY, hls, nls, hnu, hus, hul, hbY, hBY⟩
      have nlsa : ls ≠ a := fun z => by
        rw [z, hbX] at nls
        cases nls
      refine ⟨_, rfl, a, 3, _, b3, rfl, hbY, hBY, by omega, by decide, by decide, fun r5 b5 h5 h5' hB5 => ?_⟩
      obtain ⟨cut, rfl⟩ := Int.eq_ofNat_of_zero_le h5
      have bY1 : But a Y (upd Y a (.lst b5)) := But.upd (But.refl a Y)
      have ha1 : (upd Y a (.lst b5)) a = some (.lst b5) := upd_same
      obtain ⟨Y1, e1⟩ : ∃ Y1, Y1 = upd Y a (.lst b5) := ⟨_, rfl⟩
      rw [← e1] at bY1 ha1 ⊢
      have bXY1 := bXY.trans bY1
      have hlY1 := bXY1 _ _ nla hlX
      have hln1 := bXY1 _ _ nlna hlnX
      have hls1 := bY1 _ _ nlsa hls
      obtain ⟨w, hw⟩ : ∃ w, ws[i]? = some w := ⟨ws[i]'(by omega), List.getElem?_eq_getElem _⟩
      refine ⟨_, rfl, .inl ⟨rfl, _, SqL.of hlY1⟩, ?_⟩
      refine ⟨_, rfl, _, rfl, ln, _, _, _, rfl, rfl, SqL.of hln1, atI_nat (nmV_at hw), ?_⟩
      refine ⟨_, rfl, _, rfl, _, rfl, ls, _, rfl, SqL.of hls1, fun c1 nc1 => ⟨c1, _, rfl, .inl ⟨SqL.of upd_same, fun t1 nt1 => ?_⟩⟩⟩
      have e2 : cutV (nmV us) none (some (cut : Int)) = nmV (us.take cut) := by rw [cutV_to, nmV_take]
      have k1 := same_upd (o := .lst (cutV (nmV us) none (some (cut : Int)))) nc1
      have k2 := same_upd (o := .tup (cutV (nmV us) none (some (cut : Int)))) nt1
      have k12 := k1.trans k2
      have ht1 := upd_same (H := upd Y1 c1 (.lst (cutV (nmV us) none (some (cut : Int))))) (a := t1) (o := .tup (cutV (nmV us) none (some (cut : Int))))
      obtain ⟨Y2, eY2⟩ : ∃ Y2, Y2 = upd (upd Y1 c1 (.lst (cutV (nmV us) none (some (cut : Int))))) t1 (.tup (cutV (nmV us) none (some (cut : Int)))) := ⟨_, rfl⟩
      rw [← eY2] at k12 ht1 ⊢
      rw [e2] at ht1
      refine ⟨_, rfl, _, rfl, _, rfl, _, rfl, _, _, rfl, rfl, _, rfl, a, 2, _, b5, rfl, k12 _ _ ha1, hB5, by omega, by decide, by decide, fun r6 b6 h6 h6' hB6 => ?_⟩
      obtain ⟨x6, rfl⟩ := Int.eq_ofNat_of_zero_le h6
      have bY3 : But a Y2 (upd Y2 a (.lst b6)) := But.upd (But.refl a Y2)
      have ha3 : (upd Y2 a (.lst b6)) a = some (.lst b6) := upd_same
      have nt1a : t1 ≠ a := fun z => by
        have := k12 _ _ ha1
        rw [← z, ht1] at this
        cases this
      have ht3 := bY3 _ _ nt1a ht1
      obtain ⟨Y3, eY3⟩ : ∃ Y3, Y3 = upd Y2 a (.lst b6) := ⟨_, rfl⟩
      rw [← eY3] at bY3 ha3 ht3 ⊢
      have bY13 : But a Y1 Y3 := (But.of k12).trans bY3
      have hls3 := bY13 _ _ nlsa hls1
      refine ⟨_, _, rfl, rfl, _, rfl, ls, _, rfl, SqL.of hls3, fun c2 nc2 => ⟨c2, _, rfl, .inl ⟨SqL.of upd_same, fun t2 nt2 => ?_⟩⟩⟩
      have e3 : cutV (nmV us) (some (cut : Int)) (some ((cut : Int) + 1 + (x6 : Int))) = nmV ((us.drop cut).take (1 + x6)) := by
        rw [show (cut : Int) + 1 + (x6 : Int) = ((cut + 1 + x6 : Nat) : Int) by omega, cutV_nat, show cut + 1 + x6 - cut = 1 + x6 by omega, nmV_drop, nmV_take]
      have k3 := same_upd (o := .lst (cutV (nmV us) (some (cut : Int)) (some ((cut : Int) + 1 + (x6 : Int))))) nc2
      have k4 := same_upd (o := .tup (cutV (nmV us) (some (cut : Int)) (some ((cut : Int) + 1 + (x6 : Int))))) nt2
      refine ⟨by show 3 ≤ sizeLine; decide, fun t3 nt3 => ?_⟩
      have k5 := same_upd (o := .tup [.str (SX.S w), .ref t1, .ref t2]) nt3
      have k35 := (k3.trans k4).trans k5
      have ht2 := k5 _ _ (upd_same (H := upd Y3 c2 (.lst (cutV (nmV us) (some (cut : Int)) (some ((cut : Int) + 1 + (x6 : Int)))))) (a := t2) (o := .tup (cutV (nmV us) (some (cut : Int)) (some ((cut : Int) + 1 + (x6 : Int))))))
      have ht3' := upd_same (H := upd (upd Y3 c2 (.lst (cutV (nmV us) (some (cut : Int)) (some ((cut : Int) + 1 + (x6 : Int)))))) t2 (.tup (cutV (nmV us) (some (cut : Int)) (some ((cut : Int) + 1 + (x6 : Int)))))) (a := t3) (o := .tup [.str (SX.S w), .ref t1, .ref t2])
      obtain ⟨Y5, eY5⟩ : ∃ Y5, Y5 = upd (upd (upd Y3 c2 (.lst (cutV (nmV us) (some (cut : Int)) (some ((cut : Int) + 1 + (x6 : Int)))))) t2 (.tup (cutV (nmV us) (some (cut : Int)) (some ((cut : Int) + 1 + (x6 : Int)))))) t3 (.tup [.str (SX.S w), .ref t1, .ref t2]) := ⟨_, rfl⟩
      rw [← eY5] at k35 ht2 ht3' ⊢
      rw [e3] at ht2
      have bX5 : But a X Y5 := bXY1.trans (bY13.trans (But.of k35))
      have hl5 := bX5 _ _ nla hlX
      have lvs := dpAll_len hdX
      rw [List.length_map, hrl] at lvs
      refine ⟨l, vs, .ref t3, rfl, rfl, hl5, by rw [lvs]; exact small1000 (by omega), ?_⟩
      have kl : KeepT Y5 (upd Y5 l (.lst (vs ++ [.ref t3]))) := KeepT.at_ hl5 lst_no
      have dRow : Dp K Y5 (.ref t3) (SRow.d ⟨w, us.take cut, (us.drop cut).take (1 + x6)⟩) :=
        .tup (SqT.of ht3') (.cons (.str _) (.cons (.tup (SqT.of (k35 _ _ ht3)) (nm_dp _)) (.cons (.tup (SqT.of ht2) (nm_dp _)) .nil)))
      have okR : SOk ⟨w, us.take cut, (us.drop cut).take (1 + x6)⟩ := by
        have hsub : (us.take cut ++ (us.drop cut).take (1 + x6)).Sublist us := by
          have h1 : (us.take cut ++ (us.drop cut).take (1 + x6)).Sublist (us.take cut ++ us.drop cut) := List.Sublist.append (List.Sublist.refl _) (List.take_sublist _ _)
          rw [List.take_append_drop] at h1
          exact h1
        exact ⟨hws w (List.mem_of_getElem? hw), fun x hx => hws x (hus x (hsub.subset hx)), hnu.sublist hsub, by show (us.take cut).length ≤ 2; rw [List.length_take]; omega, by show ((us.drop cut).take (1 + x6)).length ≤ 2; rw [List.length_take]; omega⟩
      refine ⟨_, _, _, vs ++ [.ref t3], rs ++ [⟨w, us.take cut, (us.drop cut).take (1 + x6)⟩], b6, rfl, fun c o nc hc => ?_, ?_, upd_same, ?_, by rw [List.length_append, hrl]; rfl, fun r hr => ?_, ?_, ?_, hB6.mono (by omega)⟩
      · rw [upd_ne (ne_of_none hc nlH)]
        exact (btX.trans bX5) c o nc hc
      · rw [upd_ne nll.symm]
        exact bX5 _ _ nlna hlnX
      · rw [List.map_append]
        exact dpAll_appI (dpAll_imm ((kX bX5).trans kl) hdX (immAll_map SRow.imm rs)) (.cons (dp_imm kl dRow (SRow.imm _)) .nil)
      · rcases List.mem_append.mp hr with h | h
        · exact hrs r h
        · rw [List.mem_singleton.mp h]
          exact okR
      · rw [List.map_append, hrn, List.take_add_one, hw]
        rfl
      · rw [upd_ne nla.symm]
        exact k35 _ _ ha3
    · rintro σ X ⟨y4, y5, y6, vs, rs, b2, rfl, btX, hlnX, hlX, hdX, hrl, hrs, hrn, hbX, hBX⟩
      refine ⟨_, rfl, q X l vs rs b2 btX nlH hlX hdX (by omega) ⟨hrs, ?_, by omega⟩ hbX (hBX.mono (by omega))⟩
      rw [hrn]
      exact List.Nodup.sublist (List.take_sublist _ _) hnd
end
/-! ### slices and sums of tuples -/
def rSlAny (K : PySem.W.Frag) : V → Option Int → Option Int → Hp → VK → Prop := fun x lo hi H Q => ∃ (a : Addr) (xs : List V), x = .ref a ∧ SqT K H a xs ∧ ∀ (H' : Hp) (p : Addr), Same H H' → SqT K H' p (cutV xs lo hi) → Q (.ref p) H'
theorem cut_whole {xs : List V} {lo hi : Option Int} (h : HT.sIx xs.length 0 lo = 0 ∧ HT.sIx xs.length xs.length hi = xs.length) : cutV xs lo hi = xs := by
  unfold cutV
  rw [h.1, h.2, List.drop_zero, Nat.sub_zero, List.take_length]
theorem sl_any {X : Cx} : SlR X (rSlAny X.K) := by
  intro pins s σ H x v vl vu lo hi sl Q I rx hs pl pu h
  obtain ⟨a, xs, ex, hS, q⟩ := h
  exact sl_tupA pins s σ H x v vl vu lo hi sl Q I rx hs pl pu ⟨a, xs, ex, hS, fun e => q H a (Same.refl H) (by rw [cut_whole e]; exact hS), fun _ p np => q _ p (same_upd np) (SqT.of upd_same)⟩
theorem dp_int {K : PySem.W.Frag} {H : Hp} {x : V} {j : Int} (h : Dp K H x (.int j)) : x = .int j := by
  cases h
  rfl
def rCatAny (K : PySem.W.Frag) : V → V → Hp → VK → Prop := fun x y H Q => ∃ (a b : Addr) (xs ys : List V), x = .ref a ∧ y = .ref b ∧ SqT K H a xs ∧ SqT K H b ys ∧ xs.length + ys.length ≤ sizeLine ∧ ∀ (H' : Hp) (p : Addr), Same H H' → SqT K H' p (xs ++ ys) → Q (.ref p) H'
theorem op_catAny {X : Cx} : OpR X (binaryOp .Add) (rCatAny X.K) := by
  intro pins s σ H x y v u Q I rx ry h
  obtain ⟨a, b, xs, ys, ex, ey, hX, hY, hl, q⟩ := h
  refine op_catA pins s σ H x y v u Q I rx ry ⟨a, b, xs, ys, ex, ey, hX, hY, hl, fun e => q H b (Same.refl H) (by rw [e]; exact hY), fun _ e => q H a (Same.refl H) (by rw [e, List.append_nil]; exact hX), fun _ _ p np => q _ p (same_upd np) (SqT.of upd_same)⟩
/-! ### rows of a grammar -/
structure MRow where
  nm : List Nat
  so : List Nat
  pt : List (List Nat)
def MRow.d (r : MRow) : PyData := .tuple [strD r.nm, strD r.so, .tuple (r.pt.map strD)]
def MRow.places (r : MRow) : List (List Nat) := r.so :: r.pt
inductive En where
  | sp (p : Nat) (w : List Nat)
  | kept (w : List Nat)
  deriving DecidableEq
def En.d : En → PyData
  | .sp p w => .tuple [.str "at", .int (p : Nat), strD w]
  | .kept w => .tuple [.str "kept", strD w]
inductive Od where
  | en (e : En)
  | own
  | num (n : Nat)
def Od.d : Od → PyData
  | .en e => e.d
  | .own => .tuple [.str "own"]
  | .num n => .tuple [.str "number", .int (n : Nat)]
structure RRow where
  ma : List Nat
  tg : En
  op : List Nat
  os : List Od
def RRow.d (r : RRow) : PyData := .tuple [strD r.ma, r.tg.d, strD r.op, .tuple (r.os.map Od.d)]
theorem MRow.imm (r : MRow) : Thr.imm r.d = true := by
  show (true && (true && (immAll (r.pt.map strD) && true))) = true
  rw [immAll_map strD_imm]
  rfl
theorem En.imm (e : En) : Thr.imm e.d = true := by cases e <;> rfl
theorem Od.imm (o : Od) : Thr.imm o.d = true := by
  cases o with
  | en e => exact e.imm
  | own => rfl
  | num n => rfl
theorem RRow.imm (r : RRow) : Thr.imm r.d = true := by
  show (true && (Thr.imm r.tg.d && (true && (immAll (r.os.map Od.d) && true)))) = true
  rw [r.tg.imm, immAll_map Od.imm]
  rfl
/-- a worth of a place -/
def AtOf (rs : List SRow) (mr : MRow) (p : Nat) (w : List Nat) (up : Bool) : Prop := ∃ k r, mr.places[p]? = some k ∧ r ∈ rs ∧ r.nm = k ∧ w ∈ (if up then r.up else r.dn)
def KeptOk (rs : List SRow) (mr : MRow) (w : List Nat) : Prop := NmOk w ∧ ∀ r ∈ rs, r.nm = mr.so → w ∉ r.dn ++ r.up
/-- what a rule may have as its target -/
def TgOk (rs : List SRow) (mr : MRow) : En → Prop
  | .sp p w => AtOf rs mr p w (decide (p = 0))
  | .kept w => KeptOk rs mr w
/-- what it may need -/
def FrOk (rs : List SRow) (mr : MRow) : En → Prop
  | .sp p w => AtOf rs mr p w (!decide (p = 0))
  | .kept w => KeptOk rs mr w
def OdOk (rs : List SRow) (mr : MRow) : Od → Prop
  | .en e => FrOk rs mr e
  | .own => True
  | .num n => n < 1000000
def sl (s : String) : List Nat := (Str.ofString s).cps.toList
theorem sl_S (s : String) : SX.S (sl s) = Str.ofString s := SX.S_tl _
def OPS4 : List (List Nat) := [sl "copy", sl "plus", sl "least", sl "most"]
def OPS8 : List (List Nat) := [sl "plus", sl "less", sl "times", sl "over", sl "rest", sl "same", sl "under", sl "pick"]
def opsOf (roof : Nat) : List (List Nat) := if roof = 0 then OPS4 ++ OPS8 else OPS4
def arOf (op : List Nat) : Nat := if op = sl "copy" then 1 else if op = sl "pick" then 3 else 2
def enName : En → List (List Nat)
  | .sp _ _ => []
  | .kept w => [w]
def odName : Od → List (List Nat)
  | .en e => enName e
  | _ => []
structure RulesOk (rs : List SRow) (mr : MRow) (roof : Nat) (ks : List (List Nat)) (ru : List RRow) : Prop where
  ma : ∀ r ∈ ru, r.ma = mr.nm
  tg : ∀ r ∈ ru, TgOk rs mr r.tg
  nd : (ru.map RRow.tg).Nodup
  op : ∀ r ∈ ru, r.op ∈ opsOf roof
  ar : ∀ r ∈ ru, r.os.length = arOf r.op
  os : ∀ r ∈ ru, ∀ o ∈ r.os, OdOk rs mr o
  k2 : ks.length ≤ 2
  kt : ∀ r ∈ ru, ∀ w ∈ enName r.tg, w ∈ ks
  ko : ∀ r ∈ ru, ∀ o ∈ r.os, ∀ w ∈ odName o, w ∈ ks
  le : ru.length ≤ 30
/-- what rules are made by -/
structure Cxt (K : PySem.W.Frag) (H : Hp) (a gd ph : Addr) (rowv wv : V) (rs : List SRow) (mr : MRow) (roof : Nat) (wb : Bool) (wn : Nat) (phs : List Nat → List (List Nat)) : Prop where
  g : ∃ kvs of ofk, H gd = some (.dK kvs) ∧ valV kvs (Sum.inr "cap") = some (.int (roof : Nat)) ∧ valV kvs (Sum.inr "of") = some (.ref of) ∧ H of = some (.dK ofk) ∧
    ∀ r ∈ rs, ∃ v, valV ofk (Sum.inr (SX.S r.nm)) = some v ∧ Dp K H v (.tuple [.tuple (r.dn.map strD), .tuple (r.up.map strD)])
  p : ∃ phk, H ph = some (.dK phk) ∧ ∀ r ∈ rs, ∃ pl, valV phk (Sum.inr (SX.S r.nm)) = some (.ref pl) ∧ pl ≠ a ∧ H pl = some (.lst (nmV (phs r.nm))) ∧ (phs r.nm).Perm (r.dn ++ r.up)
  row : Dp K H rowv mr.d
  wl : Dp K H wv (.tuple [.bool wb, .int (wn : Nat)])
  w0 : 0 < wn
  w1 : wn < 1000000
  sok : SortsOk rs
  so : ∀ k ∈ mr.places, ∃ r ∈ rs, r.nm = k
  p2 : mr.pt.length ≤ 2
  rf : roof ≤ 9
theorem Cxt.but {K : PySem.W.Frag} {H H' : Hp} {a gd ph : Addr} {rowv wv : V} {rs : List SRow} {mr : MRow} {roof : Nat} {wb : Bool} {wn : Nat} {phs : List Nat → List (List Nat)} {b : List V} (c : Cxt K H a gd ph rowv wv rs mr roof wb wn phs) (ha : H a = some (.lst b)) (t : But a H H') :
    Cxt K H' a gd ph rowv wv rs mr roof wb wn phs := by
  have k := KeepT.but ha t
  have nd : ∀ {d : Addr} {kv : List (Key × V)}, H d = some (.dK kv) → d ≠ a := fun {d kv} h z => by
    rw [z, ha] at h
    cases h
  obtain ⟨kvs, of, ofk, g1, g2, g3, g4, g5⟩ := c.g
  obtain ⟨phk, p1, p2⟩ := c.p
  refine ⟨⟨kvs, of, ofk, t _ _ (nd g1) g1, g2, g3, t _ _ (nd g4) g4, fun r hr => ?_⟩, ⟨phk, t _ _ (nd p1) p1, fun r hr => ?_⟩, dp_imm k c.row mr.imm, dp_imm k c.wl rfl, c.w0, c.w1, c.sok, c.so, c.p2, c.rf⟩
  · obtain ⟨v, h1, h2⟩ := g5 r hr
    refine ⟨v, h1, dp_imm k h2 ?_⟩
    show (immAll (r.dn.map strD) && (immAll (r.up.map strD) && true)) = true
    rw [immAll_map strD_imm, immAll_map strD_imm]
    rfl
  · obtain ⟨pl, h1, h2, h3, h4⟩ := p2 r hr
    exact ⟨pl, h1, h2, t _ _ h2 h3, h4⟩
/-- a row on the heap -/
theorem row_at {K : PySem.W.Frag} {H : Hp} {v : V} {mr : MRow} (h : Dp K H v mr.d) : ∃ q t, v = .ref q ∧ SqT K H q [.str (SX.S mr.nm), .str (SX.S mr.so), .ref t] ∧ SqT K H t (nmV mr.pt) := by
  cases h with
  | tup hS hA =>
    cases hA with
    | cons a1 hA =>
      cases hA with
      | cons a2 hA =>
        cases hA with
        | cons a3 hA =>
          cases hA
          cases a1
          cases a2
          cases a3 with
          | tup hS3 hA3 =>
            refine ⟨_, _, rfl, hS, ?_⟩
            have : ∀ {xs : List V} {ws : List (List Nat)}, DpAll K H xs (ws.map strD) → xs = nmV ws := fun {xs ws} => by
              induction ws generalizing xs with
              | nil => intro h; cases h; rfl
              | cons i is ih =>
                intro h
                cases h with
                | cons a b =>
                  cases a
                  rw [ih b]
                  rfl
            rw [← this hA3]
            exact hS3
theorem names_of {K : PySem.W.Frag} {H : Hp} {xs : List V} {ws : List (List Nat)} (h : DpAll K H xs (ws.map strD)) : xs = nmV ws := by
  induction ws generalizing xs with
  | nil => cases h; rfl
  | cons i is ih =>
    cases h with
    | cons a b =>
      cases a
      rw [ih b]
      rfl
def spRules (K : PySem.W.Frag) : Sp := fun vs H Q _ => ∃ (a gd ph : Addr) (rowv wv : V) (rs : List SRow) (mr : MRow) (roof : Nat) (wb : Bool) (wn : Nat) (phs : List Nat → List (List Nat)) (m : Nat) (b : List V), vs = [.ref a, .ref gd, rowv, .ref ph, wv] ∧ Cxt K H a gd ph rowv wv rs mr roof wb wn phs ∧ H a = some (.lst b) ∧ BoxL m b ∧ m + 700 < 900000 ∧
  ∀ (H' : Hp) (l : Addr) (vs' : List V) (ru : List RRow) (ks : List (List Nat)) (b' : List V), But a H H' → H l = none → H' l = some (.lst vs') → DpAll K H' vs' (ru.map RRow.d) → RulesOk rs mr roof ks ru → H' a = some (.lst b') → BoxL (m + 700) b' → Q (.ref l) H'
theorem dpAll_take {K : PySem.W.Frag} {H : Hp} : ∀ {vs : List V} {ds : List PyData} (k : Nat), DpAll K H vs ds → DpAll K H (vs.take k) (ds.take k)
  | _, _, 0, _ => .nil
  | _, _, k + 1, .nil => .nil
  | _, _, k + 1, .cons h a => .cons h (dpAll_take k a)
theorem dpAll_drop {K : PySem.W.Frag} {H : Hp} : ∀ {vs : List V} {ds : List PyData} (k : Nat), DpAll K H vs ds → DpAll K H (vs.drop k) (ds.drop k)
  | _, _, 0, h => h
  | _, _, k + 1, .nil => .nil
  | _, _, k + 1, .cons _ a => dpAll_drop k a
theorem ins_perm {α : Type} (xs : List α) (x : α) (k : Nat) : (xs.take k ++ [x] ++ xs.drop k).Perm (x :: xs) := by
  have h : (xs.take k ++ [x] ++ xs.drop k).Perm ([x] ++ xs.take k ++ xs.drop k) := List.Perm.append_right _ List.perm_append_comm
  rw [List.append_assoc [x], List.take_append_drop] at h
  exact h
/-- an end of the making -/
def EnOk (rs : List SRow) (mr : MRow) (ks : List (List Nat)) : En → Prop
  | .sp p w => ∃ k r, mr.places[p]? = some k ∧ r ∈ rs ∧ r.nm = k ∧ w ∈ r.dn ++ r.up
  | .kept w => KeptOk rs mr w ∧ w ∈ ks
theorem EnOk.mono {rs : List SRow} {mr : MRow} {ks ks' : List (List Nat)} (h : ∀ w ∈ ks, w ∈ ks') {e : En} (x : EnOk rs mr ks e) : EnOk rs mr ks' e := by
  cases e with
  | sp p w => exact x
  | kept w => exact ⟨x.1, h w x.2⟩
def NmSmall (w : List Nat) : Prop := ∀ c ∈ w, c < 128
theorem nm_small {w : List Nat} (h : NmOk w) : NmSmall w := fun c hc => by
  have := h.1.2.2 c hc
  unfold isLet at this
  simp only [Bool.and_eq_true, decide_eq_true_eq] at this
  omega
theorem str_ok {w : List Nat} (h : NmSmall w) : PyData.strOk (SX.S w) = true := by
  unfold PyData.strOk
  rw [Array.all_eq_true']
  intro c hc
  have : c ∈ w := by simpa using hc
  have := h c this
  exact decide_eq_true (by omega)
def enW : En → List Nat
  | .sp _ w => w
  | .kept w => w
theorem en_lay {e : En} (h : NmSmall (enW e)) : e.d.canLay0 = true ∧ e.d.depth = 1 := by
  cases e with
  | sp p w =>
    refine ⟨?_, rfl⟩
    show (PyData.strOk "at" && (true && (PyData.strOk (SX.S w) && true))) = true
    rw [show PyData.strOk (SX.S w) = true from str_ok h]
    decide +kernel
  | kept w =>
    refine ⟨?_, rfl⟩
    show (PyData.strOk "kept" && (PyData.strOk (SX.S w) && true)) = true
    rw [show PyData.strOk (SX.S w) = true from str_ok h]
    decide +kernel
theorem en_shape {e : En} (h : NmSmall (enW e)) : SeqAt.shaped e.d = true := by
  obtain ⟨h1, h2⟩ := en_lay h
  unfold SeqAt.shaped
  rw [h1, h2]
  rfl
theorem ens_lay : ∀ {es : List En}, (∀ e ∈ es, NmSmall (enW e)) → PyData.canLayAll0 (es.map En.d) = true ∧ PyData.depthAll (es.map En.d) ≤ 1
  | [], _ => ⟨rfl, Nat.zero_le _⟩
  | e :: es, h => by
    obtain ⟨h1, h2⟩ := en_lay (h e (List.mem_cons_self ..))
    obtain ⟨h3, h4⟩ := ens_lay (es := es) fun x hx => h x (List.mem_cons_of_mem _ hx)
    refine ⟨?_, ?_⟩
    · show (PyData.canLay0 e.d && PyData.canLayAll0 (es.map En.d)) = true
      rw [h1, h3]
      rfl
    · show max (PyData.depth e.d) (PyData.depthAll (es.map En.d)) ≤ 1
      omega
theorem ens_shape {es : List En} (h : ∀ e ∈ es, NmSmall (enW e)) : SeqAt.shaped (.list (es.map En.d)) = true := by
  obtain ⟨h1, h2⟩ := ens_lay h
  unfold SeqAt.shaped
  rw [show PyData.canLay0 (.list (es.map En.d)) = true from h1, decide_eq_true (show PyData.depth (.list (es.map En.d)) ≤ 64 from by
    show PyData.depthAll (es.map En.d) + 1 ≤ 64
    omega)]
  rfl
theorem en_eqv (e e' : En) : PyData.eqv e.d e'.d = decide (e = e') := by
  have hs : ∀ a b : List Nat, ((SX.S a : Str) == SX.S b) = decide (a = b) := fun a b => SX.S_beq_eq
  cases e with
  | sp p w =>
    cases e' with
    | sp p' w' =>
      show ((Str.ofString "at" == Str.ofString "at") && ((((p : Nat) : Int) == ((p' : Nat) : Int)) && ((SX.S w == SX.S w') && true))) = _
      rw [show (Str.ofString "at" == Str.ofString "at") = true by decide +kernel, hs w w', Bool.and_true, Bool.true_and, Bool.eq_iff_iff, Bool.and_eq_true, decide_eq_true_eq, decide_eq_true_eq, beq_iff_eq]
      constructor
      · rintro ⟨h1, h2⟩
        rw [Int.ofNat_inj.mp h1, h2]
      · intro h
        cases h
        exact ⟨rfl, rfl⟩
    | kept w' =>
      show ((Str.ofString "at" == Str.ofString "kept") && PyData.eqvAll [.int ((p : Nat) : Int), strD w] [strD w']) = _
      rw [show (Str.ofString "at" == Str.ofString "kept") = false by decide +kernel, Bool.false_and]
      rfl
  | kept w =>
    cases e' with
    | sp p' w' =>
      show ((Str.ofString "kept" == Str.ofString "at") && PyData.eqvAll [strD w] [.int ((p' : Nat) : Int), strD w']) = _
      rw [show (Str.ofString "kept" == Str.ofString "at") = false by decide +kernel, Bool.false_and]
      rfl
    | kept w' =>
      show ((Str.ofString "kept" == Str.ofString "kept") && ((SX.S w == SX.S w') && true)) = _
      rw [show (Str.ofString "kept" == Str.ofString "kept") = true by decide +kernel, hs w w', Bool.and_true, Bool.true_and, Bool.eq_iff_iff, decide_eq_true_eq, decide_eq_true_eq]
      constructor
      · intro h
        rw [h]
      · intro h
        cases h
        rfl
theorem ens_any (e : En) : ∀ es : List En, ((es.map En.d).any fun z => PyData.eqv z e.d) = decide (e ∈ es)
  | [] => rfl
  | x :: es => by
    rw [List.map_cons, List.any_cons, en_eqv, ens_any e es, Bool.eq_iff_iff, Bool.or_eq_true, decide_eq_true_eq, decide_eq_true_eq, decide_eq_true_eq, List.mem_cons]
    exact ⟨fun h => h.elim (fun z => .inl z.symm) .inr, fun h => h.elim (fun z => .inl z.symm) .inr⟩
theorem ens_nil (es : List En) : PyData.eqv (.list (es.map En.d)) (.list []) = decide (es = []) := by
  cases es <;> rfl
/-- an end on the heap -/
theorem en_at {K : PySem.W.Frag} {H : Hp} {v : V} {e : En} (h : Dp K H v e.d) : ∃ q, v = .ref q ∧ match e with
    | .sp p w => SqT K H q [.str "at", .int (p : Nat), .str (SX.S w)]
    | .kept w => SqT K H q [.str "kept", .str (SX.S w)] := by
  cases e with
  | sp p w =>
    cases h with
    | tup hS hA =>
      cases hA with
      | cons a1 hA =>
        cases hA with
        | cons a2 hA =>
          cases hA with
          | cons a3 hA =>
            cases hA
            cases a1
            cases a2
            cases a3
            exact ⟨_, rfl, hS⟩
  | kept w =>
    cases h with
    | tup hS hA =>
      cases hA with
      | cons a1 hA =>
        cases hA with
        | cons a2 hA =>
          cases hA
          cases a1
          cases a2
          exact ⟨_, rfl, hS⟩
theorem cutV_back (xs : List V) (k : Nat) : cutV xs (some (-1 - (k : Int))) none = xs.drop (xs.length - (k + 1)) := by
  unfold cutV
  rw [HT.sIx_none]
  have e : HT.sIx xs.length 0 (some (-1 - (k : Int))) = xs.length - (k + 1) := by
    show (if (-1 - (k : Int)) < 0 then ((-1 - (k : Int)) + (xs.length : Int)).toNat else min (-1 - (k : Int)).toNat xs.length) = _
    rw [if_pos (by omega)]
    omega
  rw [e, List.take_of_length_le (by rw [List.length_drop]; exact Nat.le_refl _)]
abbrev s__law_rules_for : Stmt := top 20
abbrev N__law_rules_for : List Str := ["_law_box", "_law_g", "_law_row", "_law_phases", "_law_wild_here", "_law_places", "_law_ends", "_law_rules", "_law_known", "_law_ops", "_law_at", "_law_place", "_law_name", "_law_free", "_law_end", "_law_op", "_law_some", "_law_operands", "_law_turn", "_law_way", "_law_one", "_law_worth"]
abbrev P__law_rules_for : List Str := ["_law_box", "_law_g", "_law_row", "_law_phases", "_law_wild_here"]
theorem sc__law_rules_for : FnScope N__law_rules_for P__law_rules_for (defScope s__law_rules_for) := ⟨rfl, rfl, rfl, by decide +kernel, rfl, by decide +kernel, by decide +kernel⟩
theorem hu65 {k : Nat} {A : Around} (r : Room k A) : A.units + 65 < cLine := by
  have := r.un
  omega
structure Ru (mg : Str → Option Value) : Prop where
  range : mg "range" = none
  list : mg "list" = none
  len : mg "len" = none
  int : mg "int" = none
  tuple : mg "tuple" = none
/-- what stands beside the ends -/
structure Lc (K : PySem.W.Frag) (H X : Hp) (a pt lr lk lo : Addr) (mr : MRow) (ops : List (List Nat)) : Prop where
  bt : But a H X
  pt : SqT K X pt (nmV mr.places)
  lr : X lr = some (.lst [])
  lk : X lk = some (.lst [])
  lo : X lo = some (.lst (nmV ops))
theorem Lc.go {K : PySem.W.Frag} {H X Y : Hp} {a pt lr lk lo : Addr} {mr : MRow} {ops : List (List Nat)} {b : List V} (h : Lc K H X a pt lr lk lo mr ops) (hb : X a = some (.lst b)) (nr : lr ≠ a) (nk : lk ≠ a) (no : lo ≠ a) (t : But a X Y) : Lc K H Y a pt lr lk lo mr ops :=
  ⟨h.bt.trans t, (KeepT.but hb t).seqT h.pt, t _ _ nr h.lr, t _ _ nk h.lk, t _ _ no h.lo⟩
/-- an end as it was drawn: so many rounds, these places in the last one -/
def Drawn (mr : MRow) (phs : List Nat → List (List Nat)) (i : Nat) (done : List Nat) : En → Prop
  | .sp p w => ∃ k t, mr.places[p]? = some k ∧ (phs k)[t]? = some w ∧ (t < i ∨ t = i ∧ p ∈ done)
  | .kept _ => False
/-- while the rules are drawn -/
structure Ls (K : PySem.W.Frag) (H Y : Hp) (a le lo lf : Addr) (vs us : List V) (es fs : List En) (ops : List (List Nat)) : Prop where
  bt : But a H Y
  le : Y le = some (.lst vs)
  de : DpAll K Y vs (es.map En.d)
  lf : Y lf = some (.lst us)
  df : DpAll K Y us (fs.map En.d)
  lo : Y lo = some (.lst (nmV ops))
theorem Ls.go {K : PySem.W.Frag} {H Y Z : Hp} {a le lo lf : Addr} {vs us b : List V} {es fs : List En} {ops : List (List Nat)} (h : Ls K H Y a le lo lf vs us es fs ops) (hb : Y a = some (.lst b)) (ne : le ≠ a) (nf : lf ≠ a) (no : lo ≠ a) (t : But a Y Z) : Ls K H Z a le lo lf vs us es fs ops :=
  have k := KeepT.but hb t
  ⟨h.bt.trans t, t _ _ ne h.le, dpAll_imm k h.de (immAll_map En.imm es), t _ _ nf h.lf, dpAll_imm k h.df (immAll_map En.imm fs), t _ _ no h.lo⟩
theorem Ls.put {K : PySem.W.Frag} {H Y : Hp} {a le lo lf r : Addr} {vs us rv rv' : List V} {es fs : List En} {ops : List (List Nat)} (h : Ls K H Y a le lo lf vs us es fs ops) (hr : Y r = some (.lst rv)) (ne : le ≠ r) (nf : lf ≠ r) (no : lo ≠ r) (nH : H r = none) : Ls K H (upd Y r (.lst rv')) a le lo lf vs us es fs ops := by
  have k : KeepT Y (upd Y r (.lst rv')) := KeepT.at_ hr lst_no
  refine ⟨fun c o nc hc => ?_, ?_, dpAll_imm k h.de (immAll_map En.imm es), ?_, dpAll_imm k h.df (immAll_map En.imm fs), ?_⟩
  · rw [upd_ne (ne_of_none hc nH)]
    exact h.bt c o nc hc
  · rw [upd_ne ne]; exact h.le
  · rw [upd_ne nf]; exact h.lf
  · rw [upd_ne no]; exact h.lo
/-- the rules so far, and what is known -/
structure Rst (rs : List SRow) (mr : MRow) (roof : Nat) (ks : List (List Nat)) (es fs : List En) (i j : Nat) (ru : List RRow) (kn : List En) : Prop where
  sub : (ru.map RRow.tg).Sublist (es.take j)
  ok : ∀ r ∈ ru, r.ma = mr.nm ∧ TgOk rs mr r.tg ∧ r.op ∈ opsOf roof ∧ r.os.length = arOf r.op ∧ ∀ o ∈ r.os, OdOk rs mr o ∧ ∀ w ∈ odName o, w ∈ ks
  kf : ∀ e ∈ kn, e ∈ fs
  kl : kn.length ≤ i
theorem dpAll_look {K : PySem.W.Frag} {H : Hp} {vs : List V} {es : List En} {i : Nat} {x : V} {e : En} (h : DpAll K H vs (es.map En.d)) (hx : vs[i]? = some x) (he : es[i]? = some e) : Dp K H x e.d := by
  obtain ⟨dd, hdd, hxd⟩ := dpAll_at h hx
  rw [List.getElem?_map, he] at hdd
  cases hdd
  exact hxd
def isK : En → Bool
  | .sp _ _ => false
  | .kept _ => true
theorem ifs_or {t1 t2 t3 : TT} {A B : TS} {D : Ends} {σ : L2.St} {H : Hp} {c1 c2 : Bool} (h1 : ∀ Q : Bool → Hp → Prop, (∀ c, c = c1 → Q c H) → t1 σ H Q) (h2 : ∀ Q : Bool → Hp → Prop, (∀ c, c = c2 → Q c H) → t2 σ H Q)
    (hA : (c1 || c2) = true → tIfS t3 A B D σ H) (hB : (c1 || c2) = false → B D σ H) : tIfS (tAnd (tOr t1 t2) t3) A B D σ H := by
  refine h1 _ ?_
  intro c hc
  rw [hc]
  cases c1 with
  | true => exact iteT (iteT (hA rfl))
  | false =>
    show t2 σ H _
    refine h2 _ ?_
    intro c hc
    rw [hc]
    cases c2 with
    | true => exact iteT (hA rfl)
    | false => exact hB rfl
theorem if_some {c : Bool} {ta tb : TE} {Q : VK} {σ : L2.St} {H : Hp} {u v : V} (ha : ∀ Q : VK, Q u H → ta σ H Q) (hb : ∀ Q : VK, Q v H → tb σ H Q) (h : Q (if c = true then u else v) H) : if c = true then ta σ H Q else tb σ H Q := by
  cases c with
  | true => exact ha _ h
  | false => exact hb _ h
theorem wild_at {K : PySem.W.Frag} {H : Hp} {v : V} {wb : Bool} {wn : Nat} (h : Dp K H v (.tuple [.bool wb, .int (wn : Nat)])) : ∃ q, v = .ref q ∧ SqT K H q [.bl wb, .int (wn : Nat)] := by
  cases h with
  | tup hS hA =>
    cases hA with
    | cons a1 hA =>
      cases hA with
      | cons a2 hA =>
        cases hA
        cases a1
        cases a2
        exact ⟨_, rfl, hS⟩
def AR : List (Key × V) := [(Sum.inr "copy", .int 1), (Sum.inr "pick", .int 3)]
theorem ar_get {roof : Nat} {op : List Nat} (h : op ∈ opsOf roof) : (valV (mergeK [] AR) (Sum.inr (SX.S op))).getD (.int 2) = .int ((arOf op : Nat) : Int) := by
  have h' : op ∈ OPS4 ++ OPS8 := by
    unfold opsOf at h
    split at h
    · exact h
    · exact List.mem_append_left _ h
  simp only [OPS4, OPS8, List.cons_append, List.nil_append, List.mem_cons, List.not_mem_nil, or_false] at h'
  rcases h' with rfl | rfl | rfl | rfl | rfl | rfl | rfl | rfl | rfl | rfl | rfl | rfl <;> (rw [sl_S]; rfl)
theorem ar_le (op : List Nat) : arOf op ≤ 3 := by
  unfold arOf
  split
  · decide
  · split <;> decide
theorem ops_len (roof : Nat) : 0 < (opsOf roof).length ∧ (opsOf roof).length ≤ 12 := by
  unfold opsOf
  split <;> exact ⟨by decide, by decide⟩
section
variable {P : Program} {w : World} {K : PySem.W.Frag} {mg : Str → Option Value} {base : Heap}
theorem ok_rules_for (T : Ru mg) (c_law_take : C8.Cal P w K mg base 1 "_law_take" spTake []) (c_law_named : C8.Cal P w K mg base 2 "_law_named" spNamed []) (c_law_strewn : C8.Cal P w K mg base 2 "_law_strewn" (spStrewn K) []) (c_law_one_of : C8.Cal P w K mg base 2 "_law_one_of" (spOneOf K) []) (c_law_number : C8.Cal P w K mg base 2 "_law_number" spNumber [])
    (D : Dd K mg "_law_rules_for" s__law_rules_for P__law_rules_for) : C8.Cal P w K mg base 3 "_law_rules_for" (spRules K) [] := by
  refine D.cal sc__law_rules_for (fun vs H Q E h => ?_) (fun f cdv A outer s H vs Q E hr h => ?_)
  · obtain ⟨a, gd, ph, rowv, wv, rs, mr, roof, wb, wn, phs, m, b, rfl, _⟩ := h
    rfl
  · obtain ⟨a, gd, ph, rowv, wv, rs, mr, roof, wb, wn, phs, m, b, rfl, cx, ha, hB, hm, q⟩ := h
    refine ⟨_, (C8.pss_cut (ps_asg (pe_tup (pa_cons (pe_op op_catAny (pe_tup (pa_cons (pe_ix ix_tup (pv 2) pe_int (fun _ _ => rfl)) pa_nil)) (pe_ix ix_tup (pv 2) pe_int (fun _ _ => rfl))) (pa_cons (pe_lst pa_nil) (pa_cons (pe_lst pa_nil) (pa_cons (pe_lst pa_nil) (pa_cons (pe_lst (pa_cons pe_str (pa_cons pe_str (pa_cons pe_str (pa_cons pe_str pa_nil))))) pa_nil)))))) (pg_tup rfl (pgs_cons (pg_name (i := 5) sc__law_rules_for.nd rfl (Or.inr rfl)) (pgs_cons (pg_name (i := 6) sc__law_rules_for.nd rfl (Or.inl rfl)) (pgs_cons (pg_name (i := 7) sc__law_rules_for.nd rfl (Or.inl rfl)) (pgs_cons (pg_name (i := 8) sc__law_rules_for.nd rfl (Or.inl rfl)) (pgs_cons (pg_name (i := 9) sc__law_rules_for.nd rfl (Or.inl rfl)) pgs_nil)))))))
        (C8.pss_cut (ps_if (pt_cmpR op_eq (pe_dget (hu_of hr) (pv 1) pe_str (fun _ _ => rfl)) pe_int (nomark _))
          (pss_one (ps_set (i := 9) sc__law_rules_for.nd rfl (Or.inl rfl) (pe_op op_cat (pv 9) (pe_lst (pa_cons pe_str (pa_cons pe_str (pa_cons pe_str (pa_cons pe_str (pa_cons pe_str (pa_cons pe_str (pa_cons pe_str (pa_cons pe_str pa_nil))))))))))))
          pss_nil)
        (C8.pss_cut (ps_for PassesOwn.never rfl (pi_range1 rfl T.range (pa_cons pe_int pa_nil)) (pg_name (i := 10) sc__law_rules_for.nd rfl (Or.inl rfl))
          (pss_one (ps_for PassesOwn.never rfl (pi_list (C8.pe_c c_law_strewn hr (by decide) (by rfl) (pa_cons (pv 0) (pa_cons (pe_listRg rfl (by rfl) T.list (prg_1 (by rfl) T.range (pe_callB call_len_seq (by rfl) T.len PySem.boot_len (pa_cons (pv 5) pa_nil)))) pa_nil)))) (pg_name (i := 11) sc__law_rules_for.nd rfl (Or.inr rfl))
          (pss_one (ps_set (i := 6) sc__law_rules_for.nd rfl (Or.inl rfl) (pe_op op_cat (pv 6) (pe_lc (own := [("_law_worth", 21)]) (by exact rfl) sc__law_rules_for.nd (pi_list (pe_slice sl_list (pe_dget (hu_of hr) (pv 3) (pe_ix ix_tup (pv 5) (pv 11) (fun _ _ => rfl)) (fun _ _ => rfl)) (po_some (pv 10)) (po_some (pe_op op_add (pv 10) pe_int)))) (blkOk_by (own := [("_law_worth", 21)]) (N := N__law_rules_for) (sc := defScope s__law_rules_for) (by decide +kernel)) (fun _ _ _ _ _ => (pg_name (i := 21) sc__law_rules_for.nd rfl (Or.inl rfl))) (fun _ _ _ _ _ => pts_nil) (fun _ _ _ _ _ => (pe_tup (pa_cons pe_str (pa_cons (pv 11) (pa_cons (pv 21) pa_nil))))))))))))
        (C8.pss_cut (ps_for PassesOwn.never rfl (pi_list (C8.pe_c c_law_named hr (by decide) (by rfl) (pa_cons (pv 0) (pa_cons (C8.pe_c c_law_take hr (by decide) (by rfl) (pa_cons (pv 0) (pa_cons pe_int pa_nil))) pa_nil)))) (pg_name (i := 12) sc__law_rules_for.nd rfl (Or.inl rfl))
          (pss_one (ps_if (pt_cmpR op_notIn_seq (pv 12) (pe_dget (hu_of hr) (pv 3) (pe_ix ix_tup (pv 2) pe_int (fun _ _ => rfl)) (fun _ _ => rfl)) (by with_unfolding_all rfl))
          (pss_one (ps_expr (pe_bm PySem.F.plainAttrs_list PySem.F.slot_list_insert PySem.F.type_list_insert mt_insert (pv 6) (pa_cons (C8.pe_c c_law_take hr (by decide) (by rfl) (pa_cons (pv 0) (pa_cons (pe_op op_add (pe_callB call_len_seq (by rfl) T.len PySem.boot_len (pa_cons (pv 6) pa_nil)) pe_int) pa_nil))) (pa_cons (pe_tup (pa_cons pe_str (pa_cons (pv 12) pa_nil))) pa_nil)))))
          pss_nil)))
        (C8.pss_cut (ps_set (i := 13) sc__law_rules_for.nd rfl (Or.inr rfl) (pe_lc (own := [("_law_end", 14)]) (by exact rfl) sc__law_rules_for.nd (pi_list (pv 6)) (blkOk_by (own := [("_law_end", 14)]) (N := N__law_rules_for) (sc := defScope s__law_rules_for) (by decide +kernel)) (fun _ _ _ _ _ => (pg_name (i := 14) sc__law_rules_for.nd rfl (Or.inl rfl))) (fun _ _ _ _ _ => (pts_one (PW.pt (pw_or (pt_cmpR op_eq (pe_ix (r := rIxT K) ix_tup (pv 14) pe_int (fun _ _ => rfl)) pe_str (nomark _)) (pw_or1 (pt_cmpR (r := rIn K true) op_notIn_seq (pe_ix (r := rIxT K) ix_tup (pv 14) pe_int (fun _ _ => rfl)) (pe_ix (r := rIxT K) ix_tup (pe_dget (hu_of hr) (pe_dget (hu_of hr) (pv 1) pe_str (fun _ _ => rfl)) (pe_ix (r := rIxT K) ix_tup (pv 5) (pe_ix (r := rIxT K) ix_tup (pv 14) pe_int (fun _ _ => rfl)) (fun _ _ => rfl)) (fun _ _ => rfl)) (pe_callTy call_int1 (by rfl) T.int (by decide +kernel) (pa_cons (pe_cmpR op_eq (pe_ix (r := rIxT K) ix_tup (pv 14) pe_int (fun _ _ => rfl)) pe_int (nomark _)) pa_nil)) (fun _ _ => rfl)) (by with_unfolding_all rfl))))))) (fun _ _ _ _ _ => (pv 14))))
        (pss_cons (ps_for PassesOwn.never rfl (pi_list (pv 6)) (pg_name (i := 14) sc__law_rules_for.nd rfl (Or.inl rfl))
          (C8.pss_cut (ps_if (PW.pt (pw_and (PW.pt (pw_or (pt_cmpR op_eq (pe_ix (r := rIxT K) ix_tup (pv 14) pe_int (fun _ _ => rfl)) pe_str (nomark _)) (pw_or1 (pt_cmpR (op_notInD (hu65 hr)) (pv 14) (pv 13) (by with_unfolding_all rfl))))) (pw_and1 (pt_cmpR op_gt (C8.pe_c c_law_take hr (by decide) (by rfl) (pa_cons (pv 0) (pa_cons (pe_ix ix_tup (pv 4) pe_int (fun _ _ => rfl)) pa_nil))) pe_int (nomark _)))))
          (pss_cons (ps_par3 rfl sc__law_rules_for.nd (i := 15) (j := 16) (l := 17) rfl rfl rfl (by decide) (by decide) (by decide) rfl rfl rfl (pa_cons (C8.pe_c c_law_one_of hr (by decide) (by rfl) (pa_cons (pv 0) (pa_cons (pv 9) pa_nil))) (pa_cons (pe_ifExp (pt_val (pe_ix ix_tup (pv 4) pe_int (fun _ _ => rfl))) (pv 13) (pv 8)) (pa_cons (pe_lst pa_nil) pa_nil))) (by rfl))
        (C8.pss_cut (ps_for PassesOwn.never rfl (pi_range1 rfl T.range (pa_cons (pe_dget2 (hu_of hr) (pe_disp (pps_cons pe_str pe_int (pps_cons pe_str pe_int pps_nil)) (by rfl) (by rfl) (fun z => by cases z) (by decide)) (pv 15) pe_int (by exact ⟨rfl, rfl, rfl, rfl⟩)) pa_nil)) (pg_name (i := 18) sc__law_rules_for.nd rfl (Or.inl rfl))
          (pss_cons (ps_set (i := 19) sc__law_rules_for.nd rfl (Or.inl rfl) (C8.pe_c c_law_take hr (by decide) (by rfl) (pa_cons (pv 0) (pa_cons pe_int pa_nil))))
        (pss_cons (ps_set (i := 20) sc__law_rules_for.nd rfl (Or.inl rfl) (pe_ix ix_list (pe_lst (pa_cons (pe_tup (pa_cons pe_str pa_nil)) (pa_cons (pe_tup (pa_cons pe_str (pa_cons (C8.pe_c c_law_number hr (by decide) (by rfl) (pa_cons (pv 0) pa_nil)) pa_nil))) pa_nil))) (pe_op op_mod (pv 19) pe_int) (fun _ _ => rfl)))
        (pss_one (ps_expr (pe_bm PySem.F.plainAttrs_list PySem.F.slot_list_append PySem.F.type_list_append mt_append (pv 17) (pa_cons (pe_ifExp (PW.pt (pw_and (pt_cmpR op_lt (pv 19) pe_int (nomark _)) (pw_and1 (pt_cmpR (op_neD hr.units) (pv 16) (pe_lst pa_nil) (nomark _))))) (C8.pe_c c_law_one_of hr (by decide) (by rfl) (pa_cons (pv 0) (pa_cons (pe_slice sl_list (pv 16) (po_some (pe_op op_sub (pe_un un_neg pe_int) (pv 19))) po_none) pa_nil))) (pv 20)) pa_nil)))))))
        (pss_one (ps_expr (pe_bm PySem.F.plainAttrs_list PySem.F.slot_list_append PySem.F.type_list_append mt_append (pv 7) (pa_cons (pe_tup (pa_cons (pe_ix ix_tup (pv 2) pe_int (fun _ _ => rfl)) (pa_cons (pv 14) (pa_cons (pv 15) (pa_cons (pe_callTy call_tuple_of (by rfl) T.tuple (by decide +kernel) (pa_cons (pv 17) pa_nil)) pa_nil))))) pa_nil))))))
          pss_nil)
        (pss_one (ps_set (i := 8) sc__law_rules_for.nd rfl (Or.inl rfl) (pe_op op_cat (pv 8) (pe_lc (own := [("_law_one", 20)]) (by exact rfl) sc__law_rules_for.nd (pi_list (pe_lst (pa_cons (pv 14) pa_nil))) (blkOk_by (own := [("_law_one", 20)]) (N := N__law_rules_for) (sc := defScope s__law_rules_for) (by decide +kernel)) (fun _ _ _ _ _ => (pg_name (i := 20) sc__law_rules_for.nd rfl (Or.inl rfl))) (fun _ _ _ _ _ => (pts_one (pt_cmpR (r := rInD K) (op_inD (hu65 hr)) (pv 20) (pv 13) (by with_unfolding_all rfl)))) (fun _ _ _ _ _ => (pv 20))))))))
        (pss_one (ps_ret (pv 7))))))))), ?_⟩
    -- places, ends, rules, known, ops
    refine ⟨fun σ X => ∃ pt le lr lk lo, σ = [some (.ref a), some (.ref gd), some rowv, some (.ref ph), some wv, some (.ref pt), some (.ref le), some (.ref lr), some (.ref lk), some (.ref lo), none, none, none, none, none, none, none, none, none, none, none, none] ∧ Lc K H X a pt lr lk lo mr OPS4 ∧ X le = some (.lst []) ∧ X a = some (.lst b) ∧ H le = none ∧ H lr = none ∧ H lk = none ∧ H lo = none ∧ le ≠ lr ∧ le ≠ lk ∧ le ≠ lo ∧ lr ≠ lk ∧ lr ≠ lo, ?_, ?_⟩
    · obtain ⟨rq, rt, rfl, hr1, hr2⟩ := row_at cx.row
      refine ⟨_, rfl, rq, _, 1, .str (SX.S mr.so), rfl, rfl, hr1, atI_nat (j := 1) rfl, by show 1 ≤ sizeLine; decide, fun t1 n1 => ?_⟩
      have g1 := same_upd (o := .tup [.str (SX.S mr.so)]) n1
      refine ⟨_, rfl, rq, _, 2, .ref rt, rfl, rfl, Same.seqT g1 hr1, atI_nat (j := 2) rfl, t1, rt, _, _, rfl, rfl, SqT.of upd_same, Same.seqT g1 hr2, ?_, fun H2 pt s2 hpt => ?_⟩
      · rw [nmV_len]
        have := cx.p2
        exact Nat.le_trans (show _ ≤ 3 from by show 1 + mr.pt.length ≤ 3; omega) (by decide)
      have s12 := g1.trans s2
      refine ⟨by show 0 ≤ sizeLine; decide, fun le nle => ⟨by show 0 ≤ sizeLine; decide, fun lr nlr => ⟨by show 0 ≤ sizeLine; decide, fun lk nlk => ⟨by show 4 ≤ sizeLine; decide, fun lo nlo => ⟨by show 5 ≤ sizeLine; decide, fun tp ntp => ?_⟩⟩⟩⟩⟩
      refine ⟨tp, _, rfl, SqT.of upd_same, rfl, _, _, rfl, _, _, rfl, _, _, rfl, _, _, rfl, _, _, rfl, rfl, ?_⟩
      have h1 := same_upd (o := .lst []) nle
      have h2 := same_upd (o := .lst []) nlr
      have h3 := same_upd (o := .lst []) nlk
      have h4 := same_upd (o := .lst (nmV OPS4)) nlo
      have h5 := same_upd (o := .tup [.ref pt, .ref le, .ref lr, .ref lk, .ref lo]) ntp
      have sA := (((h1.trans h2).trans h3).trans h4).trans h5
      refine ⟨pt, le, lr, lk, lo, rfl, ⟨But.of (s12.trans sA), Same.seqT sA hpt, h5 _ _ (h4 _ _ (h3 _ _ upd_same)), h5 _ _ (h4 _ _ upd_same), h5 _ _ upd_same⟩, h5 _ _ (h4 _ _ (h3 _ _ (h2 _ _ upd_same))), (s12.trans sA) _ _ ha, s12.free nle, (s12.trans h1).free nlr, (s12.trans (h1.trans h2)).free nlk, (s12.trans ((h1.trans h2).trans h3)).free nlo, ne_of_none upd_same nlr, ne_of_none (h2 _ _ upd_same) nlk, ne_of_none (h3 _ _ (h2 _ _ upd_same)) nlo, ne_of_none upd_same nlk, ne_of_none (h3 _ _ upd_same) nlo⟩
    rintro σ X0 ⟨pt, le0, lr, lk, lo0, rfl, lc0, hle0, hb0, nle0, nlr, nlk, nlo0, d1, d2, d3, d4, d5⟩
    have off : ∀ {x : Addr}, H x = none → x ≠ a := fun {x} h z => by
      rw [z, ha] at h
      cases h
    -- ops
    refine ⟨fun σ X => ∃ lo, σ = [some (.ref a), some (.ref gd), some rowv, some (.ref ph), some wv, some (.ref pt), some (.ref le0), some (.ref lr), some (.ref lk), some (.ref lo), none, none, none, none, none, none, none, none, none, none, none, none] ∧ Lc K H X a pt lr lk lo mr (opsOf roof) ∧ X le0 = some (.lst []) ∧ X a = some (.lst b) ∧ H lo = none ∧ le0 ≠ lo ∧ lr ≠ lo, ?_, ?_⟩
    · obtain ⟨kvs, of, ofk, q1, q2, q3, q4, q5⟩ := (cx.but ha lc0.bt).g
      refine ⟨_, rfl, gd, .int (roof : Nat), rfl, by have h := DGet.k (k := Sum.inr "cap") q1; rw [q2] at h; exact h, rfl, _, rfl, ?_⟩
      by_cases hz : roof = 0
      · refine ifT (decide_eq_true (congrArg V.int (by omega))) ?_
        refine ⟨_, rfl, by show 8 ≤ sizeLine; decide, fun l8 n8 => ?_⟩
        have g8 := same_upd (o := .lst (nmV OPS8)) n8
        refine ⟨lo0, l8, _, _, rfl, rfl, g8 _ _ lc0.lo, upd_same, by show 12 ≤ sizeLine; decide, fun lo nlo => ?_⟩
        have g9 := same_upd (o := .lst (nmV OPS4 ++ nmV OPS8)) nlo
        have sA := g8.trans g9
        refine ⟨lo, rfl, ⟨lc0.bt.trans (But.of sA), Same.seqT sA lc0.pt, sA _ _ lc0.lr, sA _ _ lc0.lk, ?_⟩, sA _ _ hle0, sA _ _ hb0, ?_, ne_of_none (g8 _ _ hle0) nlo, ne_of_none (g8 _ _ lc0.lr) nlo⟩
        · have e : nmV (opsOf roof) = nmV OPS4 ++ nmV OPS8 := by
            unfold opsOf
            rw [if_pos hz]
            exact List.map_append
          rw [e]
          exact upd_same
        · exact But.free (lc0.bt.trans (But.of g8)) (g8 _ _ hb0) nlo
      · refine ifF (decide_eq_false (fun y => hz (by have := V.int.inj y; omega))) ?_
        have e : opsOf roof = OPS4 := if_neg hz
        exact ⟨lo0, rfl, by rw [e]; exact lc0, hle0, hb0, nlo0, d3, d5⟩
    rintro σ X1 ⟨lo, rfl, lc1, hle1, hb1, nlo, d6, d7⟩
    have nra := off nlr
    have nka := off nlk
    have noa := off nlo
    have pl3 : mr.places.length ≤ 3 := by
      have := cx.p2
      unfold MRow.places
      rw [List.length_cons]
      omega
    -- the ends of all places
    refine ⟨fun σ X => ∃ (y10 y11 : Option V) (le : Addr) (vs : List V) (es : List En) (b' : List V), σ = [some (.ref a), some (.ref gd), some rowv, some (.ref ph), some wv, some (.ref pt), some (.ref le), some (.ref lr), some (.ref lk), some (.ref lo), y10, y11, none, none, none, none, none, none, none, none, none, none] ∧ Lc K H X a pt lr lk lo mr (opsOf roof) ∧ X le = some (.lst vs) ∧ DpAll K X vs (es.map En.d) ∧ es.Nodup ∧ (∀ e ∈ es, Drawn mr phs 3 [] e) ∧ es.length ≤ 9 ∧ X a = some (.lst b') ∧ BoxL (m + 9) b' ∧ H le = none ∧ le ≠ lr ∧ le ≠ lk ∧ le ≠ lo, ?_, ?_⟩
    · refine ⟨3, rfl, by decide, by decide, for_range (lo := 0) (n := Int.toNat 3) (fun i σ X => ∃ (y10 y11 : Option V) (le : Addr) (vs : List V) (es : List En) (b' : List V), σ = [some (.ref a), some (.ref gd), some rowv, some (.ref ph), some wv, some (.ref pt), some (.ref le), some (.ref lr), some (.ref lk), some (.ref lo), y10, y11, none, none, none, none, none, none, none, none, none, none] ∧ Lc K H X a pt lr lk lo mr (opsOf roof) ∧ X le = some (.lst vs) ∧ DpAll K X vs (es.map En.d) ∧ es.Nodup ∧ (∀ e ∈ es, Drawn mr phs i [] e) ∧ es.length ≤ 3 * i ∧ X a = some (.lst b') ∧ BoxL (m + 3 * i) b' ∧ H le = none ∧ le ≠ lr ∧ le ≠ lk ∧ le ≠ lo)
        ⟨none, none, le0, [], [], b, rfl, lc1, hle1, .nil, List.nodup_nil, (fun e h => nomatch h), Nat.le_refl _, hb1, hB, nle0, d1, d2, d6⟩ ?_ ?_⟩
      · rintro i σ X hi ⟨y10, y11, le, vs, es, b2, rfl, lc, hle, hds, hnd, hdr, hel, hb, hBx, nle, e1, e2, e3⟩
        have hi : i < 3 := hi
        refine ⟨_, rfl, _, rfl, pt, _, rfl, .inr lc.pt, _, rfl, ⟨by decide, by decide, by omega, by rw [nmV_len]; omega, by rw [nmV_len]; omega⟩, fun q1 nq1 => ?_⟩
        have g1 := same_upd (o := .lst (rgV 0 ((nmV mr.places).length : Int))) nq1
        have nq1a : q1 ≠ a := fun z => by
          rw [z, hb] at nq1
          cases nq1
        have lrg : (rgV 0 ((nmV mr.places).length : Int)).length = mr.places.length := by
          rw [rgV_length, nmV_len]
          omega
        refine ⟨a, q1, _, b2, _, rfl, g1 _ _ hb, hBx, by omega, SqL.of upd_same, nq1a, by omega, fun X2 ls ys b3 bt2 nls hls hperm hb3 hB3 => ?_⟩
        have erg : rgV 0 ((nmV mr.places).length : Int) = (List.range mr.places.length).map fun i : Nat => V.int ((i : Nat) : Int) := by
          unfold rgV
          rw [nmV_len, Int.sub_zero, Int.toNat_natCast]
          congr 1
          funext x
          rw [Int.zero_add]
        obtain ⟨ps, eps, hps⟩ := perm_map hperm (List.range mr.places.length) erg
        subst eps
        have psn : ps.Nodup := hps.nodup_iff.mpr List.nodup_range
        have psl : ps.length = mr.places.length := by rw [hps.length_eq, List.length_range]
        have bXX2 : But a X X2 := (But.of g1).trans bt2
        have lc2 := lc.go hb nra nka noa bXX2
        have nle2 := off nle
        have hle2 := bXX2 _ _ nle2 hle
        have kT2 := KeepT.but hb bXX2
        have nlsX : X ls = none := g1.free nls
        have e4 : ls ≠ le := fun z => by
          rw [z, hle] at nlsX
          cases nlsX
        refine ⟨ls, rfl, ⟨_, SqL.of hls⟩, for_list (K := K) (a := ls) (xs := ps.map fun i : Nat => V.int ((i : Nat) : Int)) (fun j σ Y => ∃ (y11 : Option V) (le : Addr) (vs : List V) (es : List En), σ = [some (.ref a), some (.ref gd), some rowv, some (.ref ph), some wv, some (.ref pt), some (.ref le), some (.ref lr), some (.ref lk), some (.ref lo), some (.int (0 + (i : Nat))), y11, none, none, none, none, none, none, none, none, none, none] ∧ Lc K H Y a pt lr lk lo mr (opsOf roof) ∧ Y le = some (.lst vs) ∧ DpAll K Y vs (es.map En.d) ∧ es.Nodup ∧ (∀ e ∈ es, Drawn mr phs i (ps.take j) e) ∧ es.length ≤ 3 * i + j ∧ Y a = some (.lst b3) ∧ Y ls = some (.lst (ps.map fun i : Nat => V.int ((i : Nat) : Int))) ∧ H le = none ∧ le ≠ lr ∧ le ≠ lk ∧ le ≠ lo)
          ⟨y11, le, vs, es, rfl, lc2, hle2, dpAll_imm kT2 hds (immAll_map En.imm es), hnd, fun e he => ?_, by omega, hb3, hls, nle, e1, e2, e3⟩ (fun j σ Y _ ⟨_, _, _, _, _, _, _, _, _, _, _, _, h, _⟩ => SqL.of h) ?_ ?_⟩
        · have h := hdr e he
          cases e with
          | kept w => exact h.elim
          | sp p w =>
            obtain ⟨k, t, h1, h2, h3⟩ := h
            exact ⟨k, t, h1, h2, h3.elim .inl (fun z => nomatch z.2)⟩
        · rintro j x σ Y hx ⟨y11, le, vs, es, rfl, lcY, hleY, hdsY, hndY, hdrY, helY, hbY, hlsY, nleY, f1, f2, f3⟩
          obtain ⟨p, hp, rfl⟩ : ∃ p : Nat, ps[j]? = some p ∧ x = V.int ((p : Nat) : Int) := by
            rw [List.getElem?_map] at hx
            cases e : ps[j]? with
            | none => rw [e] at hx; cases hx
            | some p => rw [e] at hx; exact ⟨p, rfl, (Option.some.inj hx).symm⟩
          have hjl : j < ps.length := (List.getElem?_eq_some_iff.mp hp).1
          have hpl : p < mr.places.length := by
            have := hps.mem_iff.mp (List.mem_of_getElem? hp)
            exact List.mem_range.mp this
          obtain ⟨k, hk⟩ : ∃ k, mr.places[p]? = some k := ⟨mr.places[p], List.getElem?_eq_getElem hpl⟩
          obtain ⟨r, hr1, hr2⟩ := cx.so k (List.mem_of_getElem? hk)
          have cY := cx.but ha lcY.bt
          obtain ⟨phk, p1, p2⟩ := cY.p
          obtain ⟨pl, h1, h2, h3, h4⟩ := p2 r hr1
          rw [hr2] at h1 h3 h4
          refine ⟨_, rfl, _, rfl, _, rfl, _, rfl, pt, _, _, _, rfl, rfl, lcY.pt, atI_nat (nmV_at hk), ph, .ref pl, rfl, by have h := DGet.k (k := Sum.inr (SX.S k)) p1; rw [h1] at h; exact h, ?_⟩
          refine ⟨_, rfl, _, rfl, _, rfl, _, _, rfl, rfl, _, rfl, pl, _, rfl, SqL.of h3, fun c nc => ?_⟩
          have ec : cutV (nmV (phs k)) (some (0 + (i : Nat) : Int)) (some (0 + (i : Nat) + 1 : Int)) = nmV (((phs k).drop i).take 1) := by
            rw [Int.zero_add, show ((i : Nat) : Int) + 1 = ((i + 1 : Nat) : Int) by omega, cutV_nat, show i + 1 - i = 1 by omega, nmV_drop, nmV_take]
          have k1 := same_upd (o := .lst (cutV (nmV (phs k)) (some (0 + (i : Nat) : Int)) (some (0 + (i : Nat) + 1 : Int)))) nc
          have hc := upd_same (H := Y) (a := c) (o := .lst (cutV (nmV (phs k)) (some (0 + (i : Nat) : Int)) (some (0 + (i : Nat) + 1 : Int))))
          obtain ⟨Y1, eY1⟩ : ∃ Y1, Y1 = upd Y c (.lst (cutV (nmV (phs k)) (some (0 + (i : Nat) : Int)) (some (0 + (i : Nat) + 1 : Int)))) := ⟨_, rfl⟩
          rw [← eY1] at k1 hc ⊢
          rw [ec] at hc
          obtain ⟨wl, ewl⟩ : ∃ wl, wl = ((phs k).drop i).take 1 := ⟨_, rfl⟩
          rw [← ewl] at hc
          refine ⟨c, rfl, ⟨_, SqL.of hc⟩, fun D nD => ?_⟩
          refine lc_list (K := K) (a := c) (xs := nmV wl) (fun j H' => Same Y1 H' ∧ ∃ us, H' D = some (.lst us) ∧ DpAll K H' us (((wl.take j).map (En.sp p)).map En.d)) ⟨same_upd nD, [], upd_same, .nil⟩ (fun j H' _ h => SqL.of (h.1 _ _ hc)) ?_ ?_
          · rintro t v Z hv ⟨sZ, us, hD, hus⟩
            obtain ⟨wd, hwd, rfl⟩ : ∃ wd, wl[t]? = some wd ∧ v = V.str (SX.S wd) := by
              unfold nmV at hv
              rw [List.getElem?_map] at hv
              cases e : wl[t]? with
              | none => rw [e] at hv; cases hv
              | some u => rw [e] at hv; exact ⟨u, rfl, (Option.some.inj hv).symm⟩
            have hlen := dpAll_len hus
            rw [List.length_map, List.length_map, List.length_take] at hlen
            have wl1 : wl.length ≤ 1 := by
              rw [ewl, List.length_take]
              omega
            refine ⟨rfl, yesT ?_⟩
            refine ⟨_, rfl, _, rfl, by show 3 ≤ sizeLine; decide, fun tq ntq => ?_⟩
            have k2 := same_upd (o := .tup [.str "at", .int (p : Nat), .str (SX.S wd)]) ntq
            refine ⟨us, k2 _ _ hD, small1000 (by omega), Same.at_ (sZ.trans k2) nD, us ++ [.ref tq], upd_same, ?_⟩
            rw [List.take_add_one, hwd, List.map_append, List.map_append]
            have kl : KeepT (upd Z tq (.tup [.str "at", .int (p : Nat), .str (SX.S wd)])) (upd (upd Z tq (.tup [.str "at", .int (p : Nat), .str (SX.S wd)])) D (.lst (us ++ [.ref tq]))) := KeepT.at_ (k2 _ _ hD) lst_no
            exact dpAll_appI (dpAll_imm ((KeepT.of k2).trans kl) hus (immAll_map En.imm _)) (.cons (dp_imm kl (.tup (SqT.of upd_same) (.cons (.str _) (.cons (.int _) (.cons (.str _) .nil)))) rfl) .nil)
          rintro Z ⟨sZ, us, hD, hus⟩
          rw [nmV_len, List.take_length] at hus
          have sYZ := k1.trans sZ
          have lv := dpAll_len hdsY
          rw [List.length_map] at lv
          have lu := dpAll_len hus
          rw [List.length_map, List.length_map] at lu
          have wl1 : wl.length ≤ 1 := by
            rw [ewl, List.length_take]
            omega
          refine ⟨le, D, _, _, rfl, rfl, sYZ _ _ hleY, hD, Nat.le_trans (show _ ≤ 100 from by omega) (by decide), fun le' nle' => ?_⟩
          have k3 := same_upd (o := .lst (vs ++ us)) nle'
          have sA := sYZ.trans k3
          have nleH' : H le' = none := But.free (lcY.bt.trans (But.of sYZ)) (sYZ _ _ hbY) nle'
          refine ⟨_, le', vs ++ us, es ++ wl.map (En.sp p), rfl, lcY.go hbY nra nka noa (But.of sA), upd_same, ?_, ?_, fun e he => ?_, ?_, sA _ _ hbY, sA _ _ hlsY, nleH', ?_, ?_, ?_⟩
          · rw [List.map_append]
            exact dpAll_appI (dpAll_same sA hdsY) (dpAll_same k3 hus)
          · rw [List.nodup_append]
            refine ⟨hndY, ?_, fun x hx y hy e => ?_⟩
            · cases wl with
              | nil => exact List.nodup_nil
              | cons u r =>
                cases r with
                | nil => simp
                | cons _ _ => simp at wl1
            · subst e
              obtain ⟨u, hu, rfl⟩ := List.mem_map.mp hy
              obtain ⟨k', t, g1, g2, g3⟩ := hdrY _ hx
              rw [hk] at g1
              cases g1
              have hui : (phs k)[i]? = some u := by
                rw [ewl] at hu
                cases ed : (phs k).drop i with
                | nil =>
                  rw [ed] at hu
                  cases hu
                | cons v r =>
                  rw [ed] at hu
                  have : u = v := by simpa using hu
                  subst this
                  have := List.getElem?_drop (xs := phs k) (i := i) (j := 0)
                  rw [ed] at this
                  exact this.symm
              have nd : (phs k).Nodup := h4.nodup_iff.mpr ((cx.sok.ok r hr1).nd)
              rcases g3 with g3 | ⟨rfl, g3⟩
              · have := (List.getElem?_inj (by
                  rcases List.getElem?_eq_some_iff.mp hui with ⟨hh, _⟩
                  omega) nd).mp (g2.trans hui.symm)
                omega
              · obtain ⟨s1, hs1, hs2⟩ := List.getElem_of_mem g3
                rw [List.length_take] at hs1
                rw [List.getElem_take] at hs2
                have hs3 : ps[s1]? = some p := by
                  rw [List.getElem?_eq_getElem (by omega), hs2]
                have := (List.getElem?_inj (by omega) psn).mp (hs3.trans hp.symm)
                omega
          · rcases List.mem_append.mp he with he | he
            · have h := hdrY e he
              cases e with
              | kept w => exact h.elim
              | sp p' w =>
                obtain ⟨k', t, g1, g2, g3⟩ := h
                refine ⟨k', t, g1, g2, g3.elim .inl fun z => .inr ⟨z.1, ?_⟩⟩
                rw [List.take_add_one]
                exact List.mem_append_left _ z.2
            · obtain ⟨u, hu, rfl⟩ := List.mem_map.mp he
              refine ⟨k, i, hk, ?_, .inr ⟨rfl, ?_⟩⟩
              · rw [ewl] at hu
                cases ed : (phs k).drop i with
                | nil =>
                  rw [ed] at hu
                  cases hu
                | cons v r =>
                  rw [ed] at hu
                  have : u = v := by simpa using hu
                  subst this
                  have := List.getElem?_drop (xs := phs k) (i := i) (j := 0)
                  rw [ed] at this
                  exact this.symm
              · rw [List.take_add_one, hp]
                exact List.mem_append_right _ (by simp)
          · rw [List.length_append, List.length_map]
            omega
          · exact fun z => by
              have := sYZ _ _ lcY.lr
              rw [← z, nle'] at this
              cases this
          · exact fun z => by
              have := sYZ _ _ lcY.lk
              rw [← z, nle'] at this
              cases this
          · exact fun z => by
              have := sYZ _ _ lcY.lo
              rw [← z, nle'] at this
              cases this
        · rintro σ Y ⟨y11, le, vs, es, rfl, lcY, hleY, hdsY, hndY, hdrY, helY, hbY, hlsY, nleY, f1, f2, f3⟩
          refine ⟨_, _, le, vs, es, b3, rfl, lcY, hleY, hdsY, hndY, fun e he => ?_, by rw [List.length_map] at helY; omega, hbY, hB3.mono (by rw [lrg]; omega), nleY, f1, f2, f3⟩
          have h := hdrY e he
          cases e with
          | kept w => exact h.elim
          | sp p w =>
            obtain ⟨k, t, h1, h2, h3⟩ := h
            exact ⟨k, t, h1, h2, .inl (by rcases h3 with h3 | h3 <;> omega)⟩
      · rintro σ X ⟨y10, y11, le, vs, es, b2, rfl, lc, hle, hds, hnd, hdr, hel, hb, hBx, nle, e1, e2, e3⟩
        exact ⟨_, _, le, vs, es, b2, rfl, lc, hle, hds, hnd, hdr, hel, hb, hBx, nle, e1, e2, e3⟩
    rintro σ X2 ⟨y10, y11, le, vs2, es2, b2, rfl, lc2, hle2, hds2, hnd2, hdr2, hel2, hb2, hB2, nle, e1, e2, e3⟩
    have nea := off nle
    have eok2 : ∀ e ∈ es2, EnOk rs mr [] e := fun e he => by
      have h := hdr2 e he
      cases e with
      | kept w => exact h.elim
      | sp p w =>
        obtain ⟨k, t, h1, h2, _⟩ := h
        obtain ⟨r, hr1, hr2⟩ := cx.so k (List.mem_of_getElem? h1)
        obtain ⟨phk, _, p2⟩ := cx.p
        obtain ⟨pl, _, _, _, hp⟩ := p2 r hr1
        rw [hr2] at hp
        exact ⟨k, r, h1, hr1, hr2, hp.mem_iff.mp (List.mem_of_getElem? h2)⟩
    -- the kept ones
    refine ⟨fun σ X => ∃ (y12 : Option V) (vs : List V) (es : List En) (ks : List (List Nat)) (b' : List V), σ = [some (.ref a), some (.ref gd), some rowv, some (.ref ph), some wv, some (.ref pt), some (.ref le), some (.ref lr), some (.ref lk), some (.ref lo), y10, y11, y12, none, none, none, none, none, none, none, none, none] ∧ Lc K H X a pt lr lk lo mr (opsOf roof) ∧ X le = some (.lst vs) ∧ DpAll K X vs (es.map En.d) ∧ es.Nodup ∧ ks.length ≤ 2 ∧ (∀ e ∈ es, EnOk rs mr ks e) ∧ es.length ≤ 11 ∧ X a = some (.lst b') ∧ BoxL (m + 40) b', ?_, ?_⟩
    · refine ⟨_, rfl, _, rfl, a, 3, _, b2, rfl, hb2, hB2, by omega, by decide, by decide, fun r0 b3 h0 h0' hB3 => ?_⟩
      obtain ⟨n0, rfl⟩ := Int.eq_ofNat_of_zero_le h0
      have bX3 : But a X2 (upd X2 a (.lst b3)) := But.upd (But.refl a X2)
      have ha3 : (upd X2 a (.lst b3)) a = some (.lst b3) := upd_same
      obtain ⟨X3, e3'⟩ : ∃ X3, X3 = upd X2 a (.lst b3) := ⟨_, rfl⟩
      rw [← e3'] at bX3 ha3 ⊢
      refine ⟨a, n0, _, b3, rfl, by omega, ha3, hB3, by omega, fun X4 ln ws b4 bt4 nln hln hwl hwn hws hb4 hB4 => ?_⟩
      have bX4 := bX3.trans bt4
      have lc4 := lc2.go hb2 nra nka noa bX4
      have hle4 := bX4 _ _ nea hle2
      have kT4 := KeepT.but hb2 bX4
      have nlnX2 : X2 ln = none := But.free bX3 ha3 nln
      have nlne : ln ≠ le := fun z => by
        rw [z, hle2] at nlnX2
        cases nlnX2
      have nlna : ln ≠ a := fun z => by
        rw [z, hb2] at nlnX2
        cases nlnX2
      refine ⟨ln, rfl, ⟨_, SqL.of hln⟩, for_list (K := K) (a := ln) (xs := nmV ws) (fun j σ Y => ∃ (y12 : Option V) (vs : List V) (es : List En) (b' : List V), σ = [some (.ref a), some (.ref gd), some rowv, some (.ref ph), some wv, some (.ref pt), some (.ref le), some (.ref lr), some (.ref lk), some (.ref lo), y10, y11, y12, none, none, none, none, none, none, none, none, none] ∧ Lc K H Y a pt lr lk lo mr (opsOf roof) ∧ Y le = some (.lst vs) ∧ DpAll K Y vs (es.map En.d) ∧ es.Nodup ∧ (∀ e ∈ es, EnOk rs mr (ws.take j) e) ∧ es.length ≤ 9 + j ∧ Y a = some (.lst b') ∧ BoxL (m + 9 + 1 + 10 * n0 + j) b' ∧ Y ln = some (.lst (nmV ws)))
        ⟨none, vs2, es2, b4, rfl, lc4, hle4, dpAll_imm kT4 hds2 (immAll_map En.imm es2), hnd2, eok2, hel2, hb4, hB4, hln⟩ (fun j σ Y _ ⟨_, _, _, _, _, _, _, _, _, _, _, _, _, h⟩ => SqL.of h) ?_ ?_⟩
      · rintro j x σ Y hx ⟨y12, vs, es, b5, rfl, lcY, hleY, hdsY, hndY, hokY, helY, hbY, hBY, hlnY⟩
        obtain ⟨wd, hwd, rfl⟩ : ∃ wd, ws[j]? = some wd ∧ x = V.str (SX.S wd) := by
          unfold nmV at hx
          rw [List.getElem?_map] at hx
          cases e : ws[j]? with
          | none => rw [e] at hx; cases hx
          | some u => rw [e] at hx; exact ⟨u, rfl, (Option.some.inj hx).symm⟩
        have hjw : j < ws.length := (List.getElem?_eq_some_iff.mp hwd).1
        have cY := cx.but ha lcY.bt
        obtain ⟨rq, rt, erv, hr1, hr2⟩ := row_at cY.row
        obtain ⟨phk, p1, p2⟩ := cY.p
        obtain ⟨r, hrm, hrn⟩ := cx.so mr.so (List.mem_cons_self ..)
        obtain ⟨pl, h1, h2, h3, h4⟩ := p2 r hrm
        rw [hrn] at h1 h3 h4
        subst erv
        refine ⟨_, rfl, _, rfl, _, rfl, rq, _, 1, .str (SX.S mr.so), rfl, rfl, hr1, atI_nat (j := 1) rfl, ph, .ref pl, rfl, by have h := DGet.k (k := Sum.inr (SX.S mr.so)) p1; rw [h1] at h; exact h, pl, _, rfl, .inl (SqL.of h3), rfl, flat_names _, _, rfl, ?_⟩
        show if (!inV (.str (SX.S wd)) (nmV (phs mr.so))) = true then _ else _
        rw [in_names]
        have takeM : ∀ w ∈ ws.take j, w ∈ ws.take (j + 1) := fun w hw => by
          rw [List.take_add_one]
          exact List.mem_append_left _ hw
        by_cases hin : wd ∈ phs mr.so
        · refine ifF (by rw [decide_eq_true hin]; rfl) ?_
          exact ⟨_, vs, es, b5, rfl, lcY, hleY, hdsY, hndY, fun e he => (hokY e he).mono takeM, by omega, hbY, hBY.mono (by omega), hlnY⟩
        · refine ifT (by rw [decide_eq_false hin]; rfl) ?_
          have lv := dpAll_len hdsY
          rw [List.length_map] at lv
          refine ⟨_, rfl, .inl ⟨rfl, _, SqL.of hleY⟩, ?_⟩
          refine ⟨_, rfl, _, rfl, le, _, rfl, .inl (SqL.of hleY), _, _, rfl, rfl, a, _, _, b5, rfl, hbY, hBY, by omega, by omega, by omega, fun r5 b6 h5 h5' hB6 => ?_⟩
          obtain ⟨kk, rfl⟩ := Int.eq_ofNat_of_zero_le h5
          have bY1 : But a Y (upd Y a (.lst b6)) := But.upd (But.refl a Y)
          have haY1 : (upd Y a (.lst b6)) a = some (.lst b6) := upd_same
          obtain ⟨Y1, eY1⟩ : ∃ Y1, Y1 = upd Y a (.lst b6) := ⟨_, rfl⟩
          rw [← eY1] at bY1 haY1 ⊢
          refine ⟨_, rfl, by show 2 ≤ sizeLine; decide, fun tq ntq => ?_⟩
          have k1 := same_upd (o := .tup [.str "kept", .str (SX.S wd)]) ntq
          have bY2 := bY1.trans (But.of (a := a) k1)
          have hle6 := bY2 _ _ nea hleY
          refine ⟨le, vs, _, .ref tq, rfl, rfl, hle6, small1000 (by omega), by omega, by omega, ?_⟩
          rw [Int.toNat_natCast]
          have kt := KeepT.but hbY bY2
          have dN : Dp K (upd Y1 tq (.tup [.str "kept", .str (SX.S wd)])) (.ref tq) (En.d (.kept wd)) := .tup (SqT.of upd_same) (.cons (.str _) (.cons (.str _) .nil))
          obtain ⟨Y2, eY2⟩ : ∃ Y2, Y2 = upd Y1 tq (.tup [.str "kept", .str (SX.S wd)]) := ⟨_, rfl⟩
          rw [← eY2] at k1 bY2 hle6 kt dN ⊢
          have kl : KeepT Y2 (upd Y2 le (.lst (vs.take kk ++ [.ref tq] ++ vs.drop kk))) := KeepT.at_ hle6 lst_no
          have lcY2 := lcY.go hbY nra nka noa bY2
          have fresh : En.kept wd ∉ es := fun hm => by
            have := (hokY _ hm).2
            obtain ⟨s1, hs1, hs2⟩ := List.getElem_of_mem this
            rw [List.length_take] at hs1
            rw [List.getElem_take] at hs2
            have hs3 : ws[s1]? = some wd := by rw [List.getElem?_eq_getElem (by omega), hs2]
            have := (List.getElem?_inj (by omega) hwn).mp (hs3.trans hwd.symm)
            omega
          refine ⟨_, vs.take kk ++ [.ref tq] ++ vs.drop kk, es.take kk ++ [.kept wd] ++ es.drop kk, b6, rfl, ⟨fun c o nc hc => ?_, kl.seqT lcY2.pt, ?_, ?_, ?_⟩, upd_same, ?_, ?_, fun e he => ?_, ?_, ?_, hB6.mono (by omega), ?_⟩
          · rw [upd_ne (ne_of_none hc nle)]
            exact lcY2.bt c o nc hc
          · rw [upd_ne e1.symm]
            exact lcY2.lr
          · rw [upd_ne e2.symm]
            exact lcY2.lk
          · rw [upd_ne e3.symm]
            exact lcY2.lo
          · rw [List.map_append, List.map_append, List.map_take, List.map_drop]
            have dA := dpAll_imm (kt.trans kl) hdsY (immAll_map En.imm es)
            exact dpAll_appI (dpAll_appI (dpAll_take kk dA) (.cons (dp_imm kl dN rfl) .nil)) (dpAll_drop kk dA)
          · rw [(ins_perm es (.kept wd) kk).nodup_iff, List.nodup_cons]
            exact ⟨fresh, hndY⟩
          · rcases List.mem_cons.mp ((ins_perm es (.kept wd) kk).mem_iff.mp he) with rfl | he
            · refine ⟨⟨hws wd (List.mem_of_getElem? hwd), fun r' hr' hn' hm' => hin ?_⟩, ?_⟩
              · obtain ⟨pl', _, _, _, hp'⟩ := p2 r' hr'
                rw [hn'] at hp'
                exact hp'.mem_iff.mpr hm'
              · rw [List.take_add_one, hwd]
                exact List.mem_append_right _ (by simp)
            · exact (hokY e he).mono takeM
          · rw [(ins_perm es (.kept wd) kk).length_eq, List.length_cons]
            omega
          · rw [upd_ne nea.symm]
            exact k1 _ _ haY1
          · rw [upd_ne nlne]
            exact bY2 _ _ nlna hlnY
      · rintro σ Y ⟨y12, vs, es, b5, rfl, lcY, hleY, hdsY, hndY, hokY, helY, hbY, hBY, hlnY⟩
        rw [nmV_len] at hokY helY hBY
        rw [List.take_length] at hokY
        exact ⟨_, vs, es, ws, b5, rfl, lcY, hleY, hdsY, hndY, by omega, hokY, by omega, hbY, hBY.mono (by omega)⟩
    rintro σ X5 ⟨y12, vs, es, ks, b5, rfl, lc5, hle5, hds5, hnd5, hk2, hok5, hel5, hb5, hB5⟩
    have small5 : ∀ e ∈ es, NmSmall (enW e) := fun e he => by
      have h := hok5 e he
      cases e with
      | sp p w =>
        obtain ⟨k, r, _, hr, _, hw⟩ := h
        exact nm_small ((cx.sok.ok r hr).all w hw)
      | kept w => exact nm_small h.1.1
    have lv5 := dpAll_len hds5
    rw [List.length_map] at lv5
    -- those that may be needed
    refine ⟨fun σ X => ∃ (lf : Addr) (us : List V) (fs : List En), σ = [some (.ref a), some (.ref gd), some rowv, some (.ref ph), some wv, some (.ref pt), some (.ref le), some (.ref lr), some (.ref lk), some (.ref lo), y10, y11, y12, some (.ref lf), none, none, none, none, none, none, none, none] ∧ Same X5 X ∧ X5 lf = none ∧ X lf = some (.lst us) ∧ DpAll K X us (fs.map En.d) ∧ (∀ e ∈ fs, e ∈ es ∧ FrOk rs mr e) ∧ (∀ e ∈ es, e ∉ fs → TgOk rs mr e) ∧ fs.length ≤ 11, ?_, ?_⟩
    · refine ⟨_, rfl, le, rfl, ⟨_, SqL.of hle5⟩, fun D nD => ?_⟩
      refine lc_list (K := K) (a := le) (xs := vs) (fun j Y => Same X5 Y ∧ ∃ (us : List V) (fs : List En), Y D = some (.lst us) ∧ DpAll K Y us (fs.map En.d) ∧ (∀ e ∈ fs, e ∈ es.take j ∧ FrOk rs mr e) ∧ (∀ e ∈ es.take j, e ∉ fs → TgOk rs mr e) ∧ fs.length ≤ j)
        ⟨same_upd nD, [], [], upd_same, .nil, (fun e h => nomatch h), (fun e h => nomatch h), Nat.le_refl _⟩ (fun j Y _ h => SqL.of (h.1 _ _ hle5)) ?_ ?_
      · rintro j x Y hx ⟨sY, us, fs, hD, hus, hfs, hns, hfl⟩
        obtain ⟨dd, hdd, hxd⟩ := dpAll_at hds5 hx
        rw [List.getElem?_map] at hdd
        obtain ⟨e, he, rfl⟩ : ∃ e, es[j]? = some e ∧ dd = e.d := by
          cases h : es[j]? with
          | none => rw [h] at hdd; cases hdd
          | some e => rw [h] at hdd; exact ⟨e, rfl, (Option.some.inj hdd).symm⟩
        have hjl : j < es.length := (List.getElem?_eq_some_iff.mp he).1
        have ok := hok5 e (List.mem_of_getElem? he)
        have lu := dpAll_len hus
        rw [List.length_map] at lu
        have tk : es.take (j + 1) = es.take j ++ [e] := by rw [List.take_add_one, he]; rfl
        -- it is kept, or left out
        have yes : FrOk rs mr e → ∀ Z, Same Y Z → Same X5 (upd Z D (.lst (us ++ [x]))) ∧ ∃ (us' : List V) (fs' : List En), (upd Z D (.lst (us ++ [x]))) D = some (.lst us') ∧ DpAll K (upd Z D (.lst (us ++ [x]))) us' (fs'.map En.d) ∧ (∀ e ∈ fs', e ∈ es.take (j + 1) ∧ FrOk rs mr e) ∧ (∀ e ∈ es.take (j + 1), e ∉ fs' → TgOk rs mr e) ∧ fs'.length ≤ j + 1 := fun hfr Z sZ => by
          have hDZ := sZ _ _ hD
          have kl : KeepT Z (upd Z D (.lst (us ++ [x]))) := KeepT.at_ hDZ lst_no
          refine ⟨Same.at_ (sY.trans sZ) nD, us ++ [x], fs ++ [e], upd_same, ?_, fun e' he' => ?_, fun e' he' hn' => ?_, by rw [List.length_append]; show fs.length + 1 ≤ j + 1; omega⟩
          · rw [List.map_append]
            exact dpAll_appI (dpAll_imm ((KeepT.of sZ).trans kl) hus (immAll_map En.imm fs)) (.cons (dp_imm kl (dp_same (sY.trans sZ) hxd) e.imm) .nil)
          · rw [tk]
            rcases List.mem_append.mp he' with h | h
            · exact ⟨List.mem_append_left _ (hfs e' h).1, (hfs e' h).2⟩
            · rw [List.mem_singleton.mp h]
              exact ⟨List.mem_append_right _ (by simp), hfr⟩
          · rw [tk] at he'
            rcases List.mem_append.mp he' with h | h
            · exact hns e' h fun z => hn' (List.mem_append_left _ z)
            · exact absurd (List.mem_append_right fs h) hn'
        refine ⟨rfl, ?_⟩
        cases e with
        | kept w =>
          obtain ⟨q0, rfl, hq0⟩ := en_at (dp_same sY hxd)
          have hq0 : SqT K Y q0 [.str "kept", .str (SX.S w)] := hq0
          refine ⟨_, rfl, q0, _, 0, .str "kept", rfl, rfl, hq0, atI_nat (j := 0) rfl, rfl, _, rfl, ifT (by decide +kernel) (iteT ?_)⟩
          exact ⟨_, rfl, us, hD, small1000 (by omega), yes ok.1 Y (Same.refl Y)⟩
        | sp p w =>
          obtain ⟨q0, rfl, hq0⟩ := en_at (dp_same sY hxd)
          have hq0 : SqT K Y q0 [.str "at", .int (p : Nat), .str (SX.S w)] := hq0
          refine ⟨_, rfl, q0, _, 0, .str "at", rfl, rfl, hq0, atI_nat (j := 0) rfl, rfl, _, rfl, ifF (by decide +kernel) ?_⟩
          obtain ⟨k, r, hk, hr, hrn, hw⟩ := ok
          have cY := (cx.but ha lc5.bt).but hb5 (But.of (a := a) sY)
          obtain ⟨kvs, of, ofk, q1, q2, q3, q4, q5⟩ := cY.g
          obtain ⟨vo, ho1, ho2⟩ := q5 r hr
          rw [hrn] at ho1
          obtain ⟨oq, td, tu, rfl, hoS, htd, htu⟩ : ∃ oq td tu, vo = .ref oq ∧ SqT K Y oq [.ref td, .ref tu] ∧ SqT K Y td (nmV r.dn) ∧ SqT K Y tu (nmV r.up) := by
            cases ho2 with
            | tup hS hA =>
              cases hA with
              | cons a1 hA =>
                cases hA with
                | cons a2 hA =>
                  cases hA
                  cases a1 with
                  | tup h1 h2 =>
                    cases a2 with
                    | tup h3 h4 =>
                      rw [names_of h2] at h1
                      rw [names_of h4] at h3
                      exact ⟨_, _, _, rfl, hS, h1, h3⟩
          refine ⟨_, rfl, q0, _, 2, .str (SX.S w), rfl, rfl, hq0, atI_nat (j := 2) rfl, ?_⟩
          refine ⟨_, rfl, gd, .ref of, rfl, by have h := DGet.k (k := Sum.inr "of") q1; rw [q3] at h; exact h, ?_⟩
          refine ⟨_, rfl, _, rfl, q0, _, 1, .int (p : Nat), rfl, rfl, hq0, atI_nat (j := 1) rfl, pt, _, _, _, rfl, rfl, Same.seqT sY lc5.pt, atI_nat (nmV_at hk), ?_⟩
          refine ⟨of, .ref oq, rfl, by have h := DGet.k (k := Sum.inr (SX.S k)) q4; rw [ho1] at h; exact h, ?_⟩
          refine ⟨_, rfl, q0, _, 1, .int (p : Nat), rfl, rfl, hq0, atI_nat (j := 1) rfl, rfl, .inr ⟨_, rfl, ?_⟩⟩
          have no : FrOk rs mr (.sp p w) → False → False := fun _ h => h
          by_cases hp0 : p = 0
          · subst hp0
            refine ⟨oq, _, 1, .ref tu, rfl, congrArg V.int (if_pos (by decide +kernel)), hoS, atI_nat (j := 1) rfl, ?_⟩
            refine ⟨tu, _, rfl, .inr htu, rfl, flat_names _, _, rfl, ?_⟩
            show if (!inV (.str (SX.S w)) (nmV r.up)) = true then _ else _
            rw [in_names]
            by_cases hin : w ∈ r.up
            · refine ifF (by rw [decide_eq_true hin]; rfl) ⟨sY, us, fs, hD, hus, fun e' he' => ⟨by rw [tk]; exact List.mem_append_left _ (hfs e' he').1, (hfs e' he').2⟩, fun e' he' hn' => ?_, by omega⟩
              rw [tk] at he'
              rcases List.mem_append.mp he' with h | h
              · exact hns e' h hn'
              · rw [List.mem_singleton.mp h]
                exact ⟨k, r, hk, hr, hrn, hin⟩
            · refine ifT (by rw [decide_eq_false hin]; rfl) ?_
              exact ⟨_, rfl, us, hD, small1000 (by omega), yes ⟨k, r, hk, hr, hrn, (List.mem_append.mp hw).elim id (fun z => absurd z hin)⟩ Y (Same.refl Y)⟩
          · refine ⟨oq, _, 0, .ref td, rfl, congrArg V.int (if_neg (by rw [decide_eq_false (fun z => hp0 (by have := V.int.inj z; omega))]; decide)), hoS, atI_nat (j := 0) rfl, ?_⟩
            refine ⟨td, _, rfl, .inr htd, rfl, flat_names _, _, rfl, ?_⟩
            show if (!inV (.str (SX.S w)) (nmV r.dn)) = true then _ else _
            rw [in_names]
            by_cases hin : w ∈ r.dn
            · refine ifF (by rw [decide_eq_true hin]; rfl) ⟨sY, us, fs, hD, hus, fun e' he' => ⟨by rw [tk]; exact List.mem_append_left _ (hfs e' he').1, (hfs e' he').2⟩, fun e' he' hn' => ?_, by omega⟩
              rw [tk] at he'
              rcases List.mem_append.mp he' with h | h
              · exact hns e' h hn'
              · rw [List.mem_singleton.mp h]
                refine ⟨k, r, hk, hr, hrn, ?_⟩
                rw [decide_eq_false hp0]
                exact hin
            · refine ifT (by rw [decide_eq_false hin]; rfl) ?_
              refine ⟨_, rfl, us, hD, small1000 (by omega), yes ⟨k, r, hk, hr, hrn, ?_⟩ Y (Same.refl Y)⟩
              rw [decide_eq_false hp0]
              exact (List.mem_append.mp hw).elim (fun z => absurd z hin) id
      · rintro Y ⟨sY, us, fs, hD, hus, hfs, hns, hfl⟩
        rw [lv5, List.take_length] at hfs hns
        exact ⟨D, us, fs, rfl, sY, nD, hD, hus, hfs, hns, by omega⟩
    rintro σ X6 ⟨lf, us, fs, rfl, s56, nlf5, hlf6, hus6, hfs, hns, hfl⟩
    have lc6 := lc5.go hb5 nra nka noa (But.of (a := a) s56)
    have hle6 := s56 _ _ hle5
    have hds6 := dpAll_same s56 hds5
    have hb6 := s56 _ _ hb5
    have nfa : lf ≠ a := fun z => by
      rw [z, hb5] at nlf5
      cases nlf5
    have nfr : lf ≠ lr := fun z => by
      rw [z, lc5.lr] at nlf5
      cases nlf5
    have ls6 : Ls K H X6 a le lo lf vs us es fs (opsOf roof) := ⟨lc6.bt, hle6, hds6, hlf6, hus6, lc6.lo⟩
    have luf := dpAll_len hus6
    rw [List.length_map] at luf
    refine ⟨_, rfl, le, rfl, ⟨_, SqL.of hle6⟩, for_list (K := K) (a := le) (xs := vs) (fun i σ Y => ∃ (y14 y15 y16 y17 y18 y19 y20 y21 : Option V) (lk : Addr) (kv rv b' : List V) (kn : List En) (ru : List RRow), σ = [some (.ref a), some (.ref gd), some rowv, some (.ref ph), some wv, some (.ref pt), some (.ref le), some (.ref lr), some (.ref lk), some (.ref lo), y10, y11, y12, some (.ref lf), y14, y15, y16, y17, y18, y19, y20, y21] ∧ Ls K H Y a le lo lf vs us es fs (opsOf roof) ∧ Y lr = some (.lst rv) ∧ DpAll K Y rv (ru.map RRow.d) ∧ Y lk = some (.lst kv) ∧ DpAll K Y kv (kn.map En.d) ∧ lk ≠ a ∧ lk ≠ lr ∧ Rst rs mr roof ks es fs i i ru kn ∧ Y a = some (.lst b') ∧ BoxL (m + 40 + 20 * i) b')
      ⟨none, none, none, none, none, none, none, none, lk, [], [], b5, [], [], rfl, ls6, lc6.lr, .nil, lc6.lk, .nil, nka, d4.symm, ⟨List.Sublist.slnil, (fun r h => nomatch h), (fun r h => nomatch h), Nat.le_refl _⟩, hb6, hB5⟩ (fun j σ Y _ ⟨_, _, _, _, _, _, _, _, _, _, _, _, _, _, _, h, _⟩ => SqL.of h.le) ?_ ?_⟩
    · rintro i x σ Y hx ⟨y14, y15, y16, y17, y18, y19, y20, y21, lk', kv, rv, b', kn, ru, rfl, ls, hlr, hru, hlk, hkn, nka', nkr', rst, hb, hB⟩
      obtain ⟨dd, hdd, hxd⟩ := dpAll_at ls.de hx
      rw [List.getElem?_map] at hdd
      obtain ⟨e, he, rfl⟩ : ∃ e, es[i]? = some e ∧ dd = e.d := by
        cases h : es[i]? with
        | none => rw [h] at hdd; cases hdd
        | some e => rw [h] at hdd; exact ⟨e, rfl, (Option.some.inj hdd).symm⟩
      have hil : i < es.length := (List.getElem?_eq_some_iff.mp he).1
      have hem := List.mem_of_getElem? he
      have ok := hok5 e hem
      have tk : es.take (i + 1) = es.take i ++ [e] := by rw [List.take_add_one, he]; rfl
      have lrv := dpAll_len hru
      rw [List.length_map] at lrv
      have lkv := dpAll_len hkn
      rw [List.length_map] at lkv
      have fss : ∀ e ∈ fs, NmSmall (enW e) := fun e h => small5 e (hfs e h).1
      -- a rule, or none
      refine ⟨fun σ Y => ∃ (y15 y16 y17 y18 y19 y20 y21 : Option V) (rv b' : List V) (ru : List RRow), σ = [some (.ref a), some (.ref gd), some rowv, some (.ref ph), some wv, some (.ref pt), some (.ref le), some (.ref lr), some (.ref lk'), some (.ref lo), y10, y11, y12, some (.ref lf), some x, y15, y16, y17, y18, y19, y20, y21] ∧ Ls K H Y a le lo lf vs us es fs (opsOf roof) ∧ Y lr = some (.lst rv) ∧ DpAll K Y rv (ru.map RRow.d) ∧ Y lk' = some (.lst kv) ∧ DpAll K Y kv (kn.map En.d) ∧ Rst rs mr roof ks es fs i (i + 1) ru kn ∧ Y a = some (.lst b') ∧ BoxL (m + 40 + 20 * (i + 1)) b', ?_, ?_⟩
      · have cY := cx.but ha ls.bt
        obtain ⟨wq, rfl, hwq⟩ := wild_at cY.wl
        -- what may be needed
        obtain ⟨sl, xs, cs, esl, hsl, dsl, hcs, hcl, nsa⟩ : ∃ (sl : Addr) (xs : List V) (cs : List En), (if wb = true then V.ref lf else V.ref lk') = .ref sl ∧ Y sl = some (.lst xs) ∧ DpAll K Y xs (cs.map En.d) ∧ (∀ e ∈ cs, e ∈ fs) ∧ cs.length ≤ 11 ∧ sl ≠ a := by
          have := rst.kl
          cases wb with
          | true => exact ⟨lf, us, fs, rfl, ls.lf, ls.df, fun e h => h, hfl, nfa⟩
          | false => exact ⟨lk', kv, kn, rfl, hlk, hkn, rst.kf, by omega, nka'⟩
        have lxs := dpAll_len dsl
        rw [List.length_map] at lxs
        have noRule : ∀ {Z : Hp} {b2 : List V}, But a Y Z → Z a = some (.lst b2) → BoxL (m + 40 + 20 * i + 1) b2 → ∃ (z15 z16 z17 z18 z19 z20 z21 : Option V) (rv b' : List V) (ru : List RRow), [some (.ref a), some (.ref gd), some rowv, some (.ref ph), some (.ref wq), some (.ref pt), some (.ref le), some (.ref lr), some (.ref lk'), some (.ref lo), y10, y11, y12, some (.ref lf), some x, y15, y16, y17, y18, y19, y20, y21] = [some (.ref a), some (.ref gd), some rowv, some (.ref ph), some (.ref wq), some (.ref pt), some (.ref le), some (.ref lr), some (.ref lk'), some (.ref lo), y10, y11, y12, some (.ref lf), some x, z15, z16, z17, z18, z19, z20, z21] ∧ Ls K H Z a le lo lf vs us es fs (opsOf roof) ∧ Z lr = some (.lst rv) ∧ DpAll K Z rv (ru.map RRow.d) ∧ Z lk' = some (.lst kv) ∧ DpAll K Z kv (kn.map En.d) ∧ Rst rs mr roof ks es fs i (i + 1) ru kn ∧ Z a = some (.lst b') ∧ BoxL (m + 40 + 20 * (i + 1)) b' := fun {Z b2} t h1 h2 =>
          have k := KeepT.but hb t
          ⟨y15, y16, y17, y18, y19, y20, y21, rv, b2, ru, rfl, ls.go hb nea nfa noa t, t _ _ nra hlr, dpAll_imm k hru (immAll_map RRow.imm ru), t _ _ nka' hlk, dpAll_imm k hkn (immAll_map En.imm kn), ⟨by rw [tk]; exact rst.sub.trans (List.sublist_append_left _ _), rst.ok, rst.kf, rst.kl⟩, h1, h2.mono (by omega)⟩
        refine ifs_or (c1 := isK e) (c2 := !decide (e ∈ fs)) (fun Q hQ => ?_) (fun Q hQ => ?_) (fun hc => ?_) (fun hc => ?_)
        · cases e with
          | kept w =>
            obtain ⟨q0, rfl, hq0⟩ := en_at hxd
            have hq0 : SqT K Y q0 [.str "kept", .str (SX.S w)] := hq0
            exact ⟨_, rfl, q0, _, 0, .str "kept", rfl, rfl, hq0, atI_nat (j := 0) rfl, rfl, _, rfl, hQ _ (by show decide (V.str (Str.ofString "kept") = V.str (Str.ofString "kept")) = true; decide +kernel)⟩
          | sp p w =>
            obtain ⟨q0, rfl, hq0⟩ := en_at hxd
            have hq0 : SqT K Y q0 [.str "at", .int (p : Nat), .str (SX.S w)] := hq0
            exact ⟨_, rfl, q0, _, 0, .str "at", rfl, rfl, hq0, atI_nat (j := 0) rfl, rfl, _, rfl, hQ _ (by show decide (V.str (Str.ofString "at") = V.str (Str.ofString "kept")) = false; decide +kernel)⟩
        · exact ⟨_, rfl, _, rfl, e.d, fs.map En.d, hxd, .lst (SqL.of ls.lf) ls.df, en_shape (small5 e hem), ens_shape fss, _, rfl, hQ _ (by rw [ens_any])⟩
        · have tg : TgOk rs mr e := by
            cases e with
            | kept w => exact ok.1
            | sp p w =>
              refine hns _ hem fun z => ?_
              rw [decide_eq_true z] at hc
              cases hc
          have wn0 := cx.w0
          have wn1 := cx.w1
          refine ⟨_, rfl, _, rfl, wq, _, 1, .int (wn : Nat), rfl, rfl, hwq, atI_nat (j := 1) rfl, a, _, _, b', rfl, hb, hB, by omega, by omega, by omega, fun r0 b1 h0 h0' hB1 => ?_⟩
          have bY1 : But a Y (upd Y a (.lst b1)) := But.upd (But.refl a Y)
          have hb1 : (upd Y a (.lst b1)) a = some (.lst b1) := upd_same
          obtain ⟨Y1, eY1⟩ : ∃ Y1, Y1 = upd Y a (.lst b1) := ⟨_, rfl⟩
          rw [← eY1] at bY1 hb1 ⊢
          refine ⟨_, _, rfl, rfl, _, rfl, ?_⟩
          by_cases hr0 : 0 < r0
          · refine ifT (decide_eq_true hr0) ?_
            have ls1 := ls.go hb nea nfa noa bY1
            obtain ⟨ol1, ol2⟩ := ops_len roof
            refine ⟨_, rfl, _, rfl, a, lo, _, b1, nmV (opsOf roof), rfl, hb1, hB1, by omega, SqL.of ls1.lo, noa, by rw [nmV_len]; exact ol1, by rw [nmV_len]; omega, fun i2 ov b2 hov hB2 => ?_⟩
            have bY2 : But a Y (upd Y1 a (.lst b2)) := bY1.trans (But.upd (But.refl a Y1))
            have hb2 : (upd Y1 a (.lst b2)) a = some (.lst b2) := upd_same
            obtain ⟨Y2, eY2⟩ : ∃ Y2, Y2 = upd Y1 a (.lst b2) := ⟨_, rfl⟩
            rw [← eY2] at bY2 hb2 ⊢
            obtain ⟨op, hop, rfl⟩ : ∃ op, op ∈ opsOf roof ∧ ov = V.str (SX.S op) := by
              unfold nmV at hov
              rw [List.getElem?_map] at hov
              cases eo : (opsOf roof)[i2]? with
              | none => rw [eo] at hov; cases hov
              | some u => rw [eo] at hov; exact ⟨u, List.mem_of_getElem? eo, (Option.some.inj hov).symm⟩
            refine ⟨_, rfl, wq, _, 0, .bl wb, rfl, rfl, (KeepT.but hb bY2).seqT hwq, atI_nat (j := 0) rfl, wb, rfl, ?_⟩
            refine if_some (ta := tVar 13) (tb := tVar 8) (u := .ref lf) (v := .ref lk') (fun Q h => ⟨_, rfl, h⟩) (fun Q h => ⟨_, rfl, h⟩) ?_
            rw [esl]
            refine ⟨by show 0 ≤ sizeLine; decide, fun lp nlp => ⟨_, _, _, rfl, ?_⟩⟩
            have s3 := same_upd (o := .lst []) nlp
            have bY3 : But a Y (upd Y2 lp (.lst [])) := bY2.trans (But.of s3)
            have hb3 := s3 _ _ hb2
            have hlp3 : (upd Y2 lp (.lst [])) lp = some (.lst []) := upd_same
            obtain ⟨Y3, eY3⟩ : ∃ Y3, Y3 = upd Y2 lp (.lst []) := ⟨_, rfl⟩
            rw [← eY3] at bY3 hb3 hlp3 ⊢
            have nlpY : Y lp = none := But.free bY2 hb2 nlp
            have npa : lp ≠ a := fun z => by
              rw [z, hb] at nlpY
              cases nlpY
            -- its operands
            refine ⟨fun σ Z => ∃ (y18 y19 y20 : Option V) (ov b4 : List V) (os : List Od), σ = [some (.ref a), some (.ref gd), some rowv, some (.ref ph), some (.ref wq), some (.ref pt), some (.ref le), some (.ref lr), some (.ref lk'), some (.ref lo), y10, y11, y12, some (.ref lf), some x, some (.str (SX.S op)), some (.ref sl), some (.ref lp), y18, y19, y20, y21] ∧ But a Y Z ∧ Z lp = some (.lst ov) ∧ DpAll K Z ov (os.map Od.d) ∧ os.length = arOf op ∧ (∀ o ∈ os, OdOk rs mr o ∧ ∀ w ∈ odName o, w ∈ ks) ∧ Z a = some (.lst b4) ∧ BoxL (m + 40 + 20 * i + 20) b4, ?_, ?_⟩
            · refine fun dp ndp => ⟨upd_same, AR, rfl, by decide, dp, rfl, .inl ⟨_, Rd.of upd_same⟩, _, rfl, _, DGet.k (k := Sum.inr (SX.S op)) upd_same, ((arOf op : Nat) : Int), by rw [ar_get hop], by omega, by have := ar_le op; omega, ?_⟩
              have s4 : Same Y3 (upd (upd Y3 dp (.dK [])) dp (.dK (mergeK [] AR))) := Same.at_ (same_upd ndp) ndp
              obtain ⟨Y4, eY4⟩ : ∃ Y4, Y4 = upd (upd Y3 dp (.dK [])) dp (.dK (mergeK [] AR)) := ⟨_, rfl⟩
              rw [← eY4] at s4 ⊢
              refine for_range (lo := 0) (n := Int.toNat ((arOf op : Nat) : Int)) (fun j σ Z => ∃ (y18 y19 y20 : Option V) (ov b4 : List V) (os : List Od), σ = [some (.ref a), some (.ref gd), some rowv, some (.ref ph), some (.ref wq), some (.ref pt), some (.ref le), some (.ref lr), some (.ref lk'), some (.ref lo), y10, y11, y12, some (.ref lf), some x, some (.str (SX.S op)), some (.ref sl), some (.ref lp), y18, y19, y20, y21] ∧ But a Y Z ∧ Z lp = some (.lst ov) ∧ DpAll K Z ov (os.map Od.d) ∧ os.length = j ∧ (∀ o ∈ os, OdOk rs mr o ∧ ∀ w ∈ odName o, w ∈ ks) ∧ Z a = some (.lst b4) ∧ BoxL (m + 40 + 20 * i + 2 + 6 * j) b4)
                ⟨_, _, _, [], b2, [], rfl, bY3.trans (But.of s4), s4 _ _ hlp3, .nil, rfl, (fun r h => nomatch h), s4 _ _ hb3, hB2⟩ ?_ ?_
              · rintro j σ Z hj ⟨z18, z19, z20, ov, b4, os, rfl, btZ, hlpZ, hos, hol, hook, hb4, hB4⟩
                have hj3 : j < 3 := by
                  have := ar_le op
                  rw [Int.toNat_natCast] at hj
                  omega
                have lov := dpAll_len hos
                rw [List.length_map] at lov
                refine ⟨_, rfl, a, _, _, b4, rfl, hb4, hB4, by omega, by decide, by decide, fun w0 b5 h0 h0' hB5 => ?_⟩
                obtain ⟨ww, rfl⟩ := Int.eq_ofNat_of_zero_le h0
                have bZ1 : But a Z (upd Z a (.lst b5)) := But.upd (But.refl a Z)
                have hb5 : (upd Z a (.lst b5)) a = some (.lst b5) := upd_same
                obtain ⟨Z1, eZ1⟩ : ∃ Z1, Z1 = upd Z a (.lst b5) := ⟨_, rfl⟩
                rw [← eZ1] at bZ1 hb5 ⊢
                refine ⟨by show 1 ≤ sizeLine; decide, fun t1 n1 => ?_⟩
                have sA := same_upd (o := .tup [.str "own"]) n1
                have hb6 := sA _ _ hb5
                refine ⟨_, rfl, a, _, b5, rfl, hb6, hB5, by omega, fun Z3 rn b7 bt3 hb7 hB7 hrn hrn' => ⟨by show 2 ≤ sizeLine; decide, fun t2 n2 => ⟨by show 2 ≤ sizeLine; decide, fun l3 n3 => ?_⟩⟩⟩
                obtain ⟨rm, rfl⟩ := Int.eq_ofNat_of_zero_le hrn
                have sB := same_upd (o := .tup [.str "number", .int (rm : Nat)]) n2
                have sC := same_upd (o := .lst [.ref t1, .ref t2]) n3
                have bZ4 := ((bZ1.trans (But.of sA)).trans bt3).trans (But.of (a := a) (sB.trans sC))
                have hb8 := (sB.trans sC) _ _ hb7
                have d1 : Dp K Z3 (.ref t1) Od.own.d := dp_imm (KeepT.but hb6 bt3) (.tup (SqT.of upd_same) (.cons (.str _) .nil)) rfl
                have d2 : Dp K (upd Z3 t2 (.tup [.str "number", .int (rm : Nat)])) (.ref t2) (Od.num rm).d := .tup (SqT.of upd_same) (.cons (.str _) (.cons (.int _) .nil))
                have d1 := dp_same (sB.trans sC) d1
                have d2 := dp_same sC d2
                have hl3 : (upd (upd Z3 t2 (.tup [.str "number", .int (rm : Nat)])) l3 (.lst [.ref t1, .ref t2])) l3 = some (.lst [.ref t1, .ref t2]) := upd_same
                obtain ⟨Z4, eZ4⟩ : ∃ Z4, Z4 = upd (upd Z3 t2 (.tup [.str "number", .int (rm : Nat)])) l3 (.lst [.ref t1, .ref t2]) := ⟨_, rfl⟩
                rw [← eZ4] at bZ4 hb8 d1 d2 hl3 ⊢
                obtain ⟨v1, o1, hat, dv1, ok1, nm1⟩ : ∃ v1 o1, atI [V.ref t1, V.ref t2] (((ww : Nat) : Int) % 2) = some v1 ∧ Dp K Z4 v1 (Od.d o1) ∧ OdOk rs mr o1 ∧ odName o1 = [] := by
                  rcases Nat.mod_two_eq_zero_or_one ww with h | h
                  · exact ⟨_, .own, by rw [show ((ww : Nat) : Int) % 2 = ((0 : Nat) : Int) by omega]; exact atI_nat (j := 0) rfl, d1, trivial, rfl⟩
                  · exact ⟨_, .num rm, by rw [show ((ww : Nat) : Int) % 2 = ((1 : Nat) : Int) by omega]; exact atI_nat (j := 1) rfl, d2, (by show rm < 1000000; omega), rfl⟩
                refine ⟨_, rfl, _, _, rfl, rfl, by show (0 : Int) < 2; decide, l3, _, _, v1, rfl, rfl, SqL.of hl3, hat, ?_⟩
                have btZ4 := btZ.trans bZ4
                have hlp4 := bZ4 _ _ npa hlpZ
                have hos4 := dpAll_imm (KeepT.but hb4 bZ4) hos (immAll_map Od.imm os)
                -- one more
                have fin : ∀ (U : Hp) (v : V) (o : Od) (bu : List V), But a Z4 U → U a = some (.lst bu) → BoxL (m + 40 + 20 * i + 2 + 6 * j + 6) bu → Dp K U v o.d → OdOk rs mr o → (∀ w ∈ odName o, w ∈ ks) → ∃ (l : Addr) (xs : List V) (y : V), V.ref lp = .ref l ∧ [v] = [y] ∧ U l = some (.lst xs) ∧ xs.length < sizeLine ∧ ∃ (y18 y19 y20 : Option V) (ov b4 : List V) (os : List Od), [some (.ref a), some (.ref gd), some rowv, some (.ref ph), some (.ref wq), some (.ref pt), some (.ref le), some (.ref lr), some (.ref lk'), some (.ref lo), y10, y11, y12, some (.ref lf), some x, some (.str (SX.S op)), some (.ref sl), some (.ref lp), some (.int (0 + ((j : Nat) : Int))), some (.int ((ww : Nat) : Int)), some v1, y21] = [some (.ref a), some (.ref gd), some rowv, some (.ref ph), some (.ref wq), some (.ref pt), some (.ref le), some (.ref lr), some (.ref lk'), some (.ref lo), y10, y11, y12, some (.ref lf), some x, some (.str (SX.S op)), some (.ref sl), some (.ref lp), y18, y19, y20, y21] ∧ But a Y (upd U l (.lst (xs ++ [y]))) ∧ (upd U l (.lst (xs ++ [y]))) lp = some (.lst ov) ∧ DpAll K (upd U l (.lst (xs ++ [y]))) ov (os.map Od.d) ∧ os.length = j + 1 ∧ (∀ o ∈ os, OdOk rs mr o ∧ ∀ w ∈ odName o, w ∈ ks) ∧ (upd U l (.lst (xs ++ [y]))) a = some (.lst b4) ∧ BoxL (m + 40 + 20 * i + 2 + 6 * (j + 1)) b4 := fun U v o bu bU hbu hBu dv hov hnv => by
                  have hlpU := bU _ _ npa hlp4
                  have kk : KeepT U (upd U lp (.lst (ov ++ [v]))) := KeepT.at_ hlpU lst_no
                  refine ⟨lp, ov, v, rfl, rfl, hlpU, small1000 (by omega), _, _, _, ov ++ [v], bu, os ++ [o], rfl, fun c o nc hc => ?_, upd_same, ?_, ?_, fun o' ho' => ?_, ?_, hBu.mono (by omega)⟩
                  · rw [upd_ne (ne_of_none hc nlpY)]
                    exact (btZ4.trans bU) c o nc hc
                  · rw [List.map_append]
                    exact dpAll_appI (dpAll_imm ((KeepT.but hb8 bU).trans kk) hos4 (immAll_map Od.imm os)) (.cons (dp_imm kk dv o.imm) .nil)
                  · rw [List.length_append]
                    show os.length + 1 = j + 1
                    omega
                  · rcases List.mem_append.mp ho' with h | h
                    · exact hook o' h
                    · rw [List.mem_singleton.mp h]
                      exact ⟨hov, hnv⟩
                  · rw [upd_ne npa.symm]
                    exact hbu
                refine ⟨_, rfl, .inl ⟨rfl, _, SqL.of hlp4⟩, ?_⟩
                refine ⟨_, rfl, _, _, rfl, rfl, _, rfl, ?_⟩
                have hn1 : ∀ w ∈ odName o1, w ∈ ks := by rw [nm1]; exact fun w h => nomatch h
                have hsl4 := btZ4 _ _ nsa hsl
                have dsl4 := dpAll_imm (KeepT.but hb btZ4) dsl (immAll_map En.imm cs)
                have css : ∀ e ∈ cs, NmSmall (enW e) := fun e h => fss e (hcs e h)
                by_cases hw4 : ((ww : Nat) : Int) < 4
                · refine ifT (decide_eq_true hw4) ⟨_, rfl, by show 0 ≤ sizeLine; decide, fun l5 n5 => ?_⟩
                  have s5 := same_upd (o := .lst []) n5
                  refine ⟨.list (cs.map En.d), .list [], .lst (SqL.of (s5 _ _ hsl4)) (dpAll_same s5 dsl4), .lst (SqL.of upd_same) .nil, ens_shape css, by decide +kernel, _, rfl, ?_⟩
                  have hb9 := s5 _ _ hb8
                  have bU5 : But a Z4 (upd Z4 l5 (.lst [])) := But.of s5
                  have hsl5 := s5 _ _ hsl4
                  have dsl5 := dpAll_same s5 dsl4
                  obtain ⟨Z5, eZ5⟩ : ∃ Z5, Z5 = upd Z4 l5 (.lst []) := ⟨_, rfl⟩
                  rw [← eZ5] at s5 hb9 bU5 hsl5 dsl5 ⊢
                  rw [ens_nil]
                  by_cases hcn : cs = []
                  · refine ifF (by rw [decide_eq_true hcn]; rfl) ⟨_, rfl, ?_⟩
                    exact fin Z5 v1 o1 b7 bU5 hb9 (hB7.mono (by omega)) (dp_same s5 dv1) ok1 hn1
                  · refine ifT (by rw [decide_eq_false hcn]; rfl) ?_
                    refine ⟨_, rfl, _, rfl, 1, rfl, _, rfl, _, _, rfl, rfl, _, rfl, sl, xs, rfl, SqL.of hsl5, fun l6 n6 => ?_⟩
                    have s6 := same_upd (o := .lst (cutV xs (some (-1 - ((ww : Nat) : Int))) none)) n6
                    have hcut : cutV xs (some (-1 - ((ww : Nat) : Int))) none = xs.drop (xs.length - (ww + 1)) := cutV_back xs ww
                    have clp : 0 < cs.length := List.length_pos_iff.mpr hcn
                    refine ⟨a, l6, _, b7, _, rfl, s6 _ _ hb9, hB7, by omega, SqL.of upd_same, fun z => ?_, ?_, ?_, fun i3 v3 b8 hv3 hB8 => ?_⟩
                    · rw [z, hb9] at n6
                      cases n6
                    · rw [show (-1 : Int) - ((ww : Nat) : Int) = -1 - ((ww : Nat) : Int) from rfl, hcut, List.length_drop]
                      omega
                    · rw [hcut, List.length_drop]
                      omega
                    rw [hcut, List.getElem?_drop] at hv3
                    obtain ⟨dd3, hdd3, hd3⟩ := dpAll_at dsl5 hv3
                    rw [List.getElem?_map] at hdd3
                    obtain ⟨e3', he3, rfl⟩ : ∃ e3', cs[xs.length - (ww + 1) + i3]? = some e3' ∧ dd3 = e3'.d := by
                      cases h : cs[xs.length - (ww + 1) + i3]? with
                      | none => rw [h] at hdd3; cases hdd3
                      | some e => rw [h] at hdd3; exact ⟨e, rfl, (Option.some.inj hdd3).symm⟩
                    have hfe := hcs e3' (List.mem_of_getElem? he3)
                    refine fin _ v3 (.en e3') b8 (bU5.trans ((But.of s6).trans (But.upd (But.refl a _)))) upd_same (hB8.mono (by omega)) (dp_imm ((KeepT.of s6).trans (KeepT.at_ (s6 _ _ hb9) lst_no)) hd3 e3'.imm) (hfs e3' hfe).2 fun w hw => ?_
                    have hk3 := hok5 e3' (hfs e3' hfe).1
                    cases e3' with
                    | sp p w' => cases hw
                    | kept w' =>
                      rw [List.mem_singleton.mp hw]
                      exact hk3.2
                · refine ifF (decide_eq_false hw4) ⟨_, rfl, ?_⟩
                  exact fin Z4 v1 o1 b7 (But.refl a Z4) hb8 (hB7.mono (by omega)) dv1 ok1 hn1
              · rintro σ Z ⟨z18, z19, z20, ov, b4, os, rfl, btZ, hlpZ, hos, hol, hook, hb4, hB4⟩
                rw [Int.toNat_natCast] at hol hB4
                have := ar_le op
                exact ⟨_, _, _, ov, b4, os, rfl, btZ, hlpZ, hos, hol, hook, hb4, hB4.mono (by omega)⟩
            · rintro σ Z ⟨z18, z19, z20, ov, b4, os, rfl, btZ, hlpZ, hos, hol, hook, hb4, hB4⟩
              have kZ := KeepT.but hb btZ
              have lsZ := ls.go hb nea nfa noa btZ
              have hlrZ := btZ _ _ nra hlr
              have cZ := cx.but ha lsZ.bt
              obtain ⟨rq, rt, erv, hr1, hr2⟩ := row_at cZ.row
              subst erv
              refine ⟨_, rfl, .inl ⟨rfl, _, SqL.of hlrZ⟩, ?_⟩
              refine ⟨_, rfl, rq, _, 0, .str (SX.S mr.nm), rfl, rfl, hr1, atI_nat (j := 0) rfl, _, rfl, _, rfl, _, rfl, lp, ov, rfl, .inl ⟨SqL.of hlpZ, fun l7 n7 => ?_⟩⟩
              refine ⟨by show 4 ≤ sizeLine; decide, fun l8 n8 => ?_⟩
              have s7 := same_upd (o := .tup ov) n7
              have s8 := same_upd (o := .tup [.str (SX.S mr.nm), x, .str (SX.S op), .ref l7]) n8
              have dR : Dp K (upd (upd Z l7 (.tup ov)) l8 (.tup [.str (SX.S mr.nm), x, .str (SX.S op), .ref l7])) (.ref l8) (RRow.d ⟨mr.nm, e, op, os⟩) :=
                .tup (SqT.of upd_same) (.cons (.str _) (.cons (dp_imm (kZ.trans (KeepT.of (s7.trans s8))) hxd e.imm) (.cons (.str _) (.cons (dp_same s8 (.tup (SqT.of upd_same) (dpAll_same s7 hos))) .nil))))
              have s78 := s7.trans s8
              obtain ⟨U, eU⟩ : ∃ U, U = upd (upd Z l7 (.tup ov)) l8 (.tup [.str (SX.S mr.nm), x, .str (SX.S op), .ref l7]) := ⟨_, rfl⟩
              rw [← eU] at dR s78 ⊢
              have hlrU := s78 _ _ hlrZ
              have sl7 := rst.sub.length_le
              rw [List.length_map, List.length_take] at sl7
              have kU : KeepT U (upd U lr (.lst (rv ++ [.ref l8]))) := KeepT.at_ hlrU lst_no
              have lsU := (lsZ.go hb4 nea nfa noa (But.of s78)).put (rv' := rv ++ [.ref l8]) hlrU e1 nfr d7.symm nlr
              refine ⟨lr, rv, .ref l8, rfl, rfl, hlrU, small1000 (by omega), _, _, _, _, _, _, _, rv ++ [.ref l8], b4, ru ++ [⟨mr.nm, e, op, os⟩], rfl, lsU, upd_same, ?_, ?_, ?_, ⟨?_, fun r hr => ?_, rst.kf, rst.kl⟩, ?_, hB4.mono (by omega)⟩
              · rw [List.map_append]
                exact dpAll_appI (dpAll_imm ((kZ.trans (KeepT.of s78)).trans kU) hru (immAll_map RRow.imm ru)) (.cons (dp_imm kU dR (RRow.imm _)) .nil)
              · rw [upd_ne nkr']
                exact s78 _ _ (btZ _ _ nka' hlk)
              · exact dpAll_imm ((kZ.trans (KeepT.of s78)).trans kU) hkn (immAll_map En.imm kn)
              · rw [List.map_append, tk]
                exact rst.sub.append (List.Sublist.refl _)
              · rcases List.mem_append.mp hr with h | h
                · exact rst.ok r h
                · rw [List.mem_singleton.mp h]
                  exact ⟨rfl, tg, hop, hol, hook⟩
              · rw [upd_ne nra.symm]
                exact s78 _ _ hb4
          · refine ifF (decide_eq_false hr0) ?_
            exact noRule bY1 hb1 hB1
        · exact noRule (But.refl a Y) hb (hB.mono (by omega))
      · rintro σ Z ⟨y15, y16, y17, y18, y19, y20, y21, rv, b2, ru, rfl, ls2, hlr2, hru2, hlk2, hkn2, rst2, hb2, hB2⟩
        refine ⟨_, rfl, _, rfl, by show 1 ≤ sizeLine; decide, fun l1 n1 => ⟨l1, rfl, ⟨_, SqL.of upd_same⟩, fun D nD => ?_⟩⟩
        have s1 := same_upd (o := .lst [x]) n1
        have h1 : (upd Z l1 (.lst [x])) l1 = some (.lst [x]) := upd_same
        obtain ⟨Z1, eZ1⟩ : ∃ Z1, Z1 = upd Z l1 (.lst [x]) := ⟨_, rfl⟩
        rw [← eZ1] at s1 h1 nD ⊢
        refine lc_list (K := K) (a := l1) (xs := [x]) (fun j U => Same Z1 U ∧ ∃ (zs : List V) (cs : List En), U D = some (.lst zs) ∧ DpAll K U zs (cs.map En.d) ∧ (∀ e ∈ cs, e ∈ fs) ∧ cs.length ≤ j) ⟨same_upd nD, [], [], upd_same, .nil, (fun r h => nomatch h), Nat.le_refl _⟩ (fun j U _ h => SqL.of (h.1 _ _ h1)) ?_ ?_
        · rintro j x' U hx' ⟨sU, zs, cs, hD, hzs, hcs, hcl⟩
          obtain ⟨rfl, rfl⟩ : j = 0 ∧ x' = x := by
            cases j with
            | zero => exact ⟨rfl, (Option.some.inj hx').symm⟩
            | succ j => cases hx'
          have sZU := s1.trans sU
          have lz := dpAll_len hzs
          rw [List.length_map] at lz
          have hxU : Dp K U x' e.d := dp_same sZU (dpAll_look ls2.de hx he)
          refine ⟨rfl, _, rfl, _, rfl, e.d, fs.map En.d, hxU, .lst (SqL.of (sZU _ _ ls2.lf)) (dpAll_same sZU ls2.df), en_shape (small5 e hem), ens_shape fss, _, rfl, ?_⟩
          rw [ens_any]
          by_cases hin : e ∈ fs
          · refine ifT (decide_eq_true hin) ⟨_, rfl, zs, hD, small1000 (by omega), Same.at_ sU nD, zs ++ [x'], cs ++ [e], upd_same, ?_, fun e' he' => ?_, by rw [List.length_append]; show cs.length + 1 ≤ 0 + 1; omega⟩
            · rw [List.map_append]
              have kk : KeepT U (upd U D (.lst (zs ++ [x']))) := KeepT.at_ hD lst_no
              exact dpAll_appI (dpAll_imm kk hzs (immAll_map En.imm cs)) (.cons (dp_imm kk hxU e.imm) .nil)
            · rcases List.mem_append.mp he' with h | h
              · exact hcs e' h
              · rw [List.mem_singleton.mp h]
                exact hin
          · exact ifF (decide_eq_false hin) ⟨sU, zs, cs, hD, hzs, hcs, by omega⟩
        · rintro U ⟨sU, zs, cs, hD, hzs, hcs, hcl⟩
          have lz := dpAll_len hzs
          rw [List.length_map] at lz
          have sZU := s1.trans sU
          refine ⟨lk', D, kv, zs, rfl, rfl, sZU _ _ hlk2, hD, ?_, fun lk2 nlk2 => ?_⟩
          · refine Nat.le_trans (show _ ≤ 100 from ?_) (by decide)
            have := rst.kl
            have hcl : cs.length ≤ 1 := hcl
            omega
          have sN := same_upd (o := .lst (kv ++ zs)) nlk2
          have sA := sZU.trans sN
          have bA : But a Z (upd U lk2 (.lst (kv ++ zs))) := But.of sA
          refine ⟨some x, y15, y16, y17, y18, y19, y20, y21, lk2, kv ++ zs, rv, b2, kn ++ cs, ru, rfl, ls2.go hb2 nea nfa noa bA, sA _ _ hlr2, dpAll_same sA hru2, upd_same, ?_, ?_, ?_, ⟨rst2.sub, rst2.ok, fun e' he' => (List.mem_append.mp he').elim (rst2.kf e') (hcs e'), ?_⟩, sA _ _ hb2, hB2⟩
          · rw [List.map_append]
            exact dpAll_appI (dpAll_same sA hkn2) (dpAll_same sN hzs)
          · exact fun z => by
              have := sZU _ _ hb2
              rw [← z, nlk2] at this
              cases this
          · exact fun z => by
              have := sZU _ _ hlr2
              rw [← z, nlk2] at this
              cases this
          · rw [List.length_append]
            have := rst2.kl
            have hcl : cs.length ≤ 1 := hcl
            omega
    · rintro σ Y ⟨y14, y15, y16, y17, y18, y19, y20, y21, lk', kv, rv, b', kn, ru, rfl, ls, hlr, hru, hlk, hkn, nka', nkr', rst, hb, hB⟩
      have lvv := dpAll_len hds6
      rw [List.length_map] at lvv
      have sl := rst.sub.length_le
      rw [List.length_map, List.length_take] at sl
      refine ⟨_, rfl, q Y lr rv ru ks b' ls.bt nlr hlr hru ⟨fun r h => (rst.ok r h).1, fun r h => (rst.ok r h).2.1, rst.sub.nodup (List.Nodup.sublist (List.take_sublist _ _) hnd5), fun r h => (rst.ok r h).2.2.1, fun r h => (rst.ok r h).2.2.2.1, fun r h o ho => ((rst.ok r h).2.2.2.2 o ho).1, hk2, fun r h w hw => ?_, fun r h o ho => ((rst.ok r h).2.2.2.2 o ho).2, by omega⟩ hb (hB.mono (by omega))⟩
      have hm : r.tg ∈ es := List.mem_of_mem_take (rst.sub.mem (List.mem_map_of_mem h))
      have hk := hok5 _ hm
      cases et : r.tg with
      | sp p w' =>
        rw [et] at hw
        cases hw
      | kept w' =>
        rw [et] at hw hk
        rw [List.mem_singleton.mp hw]
        exact hk.2
end
/-! ### dict(pairs) whose keys are tuples, with tuples in them: a dict that isn't followed -/
mutual
def keyD : PyData → NestedKey
  | .tuple ds => .tup (keyDs ds)
  | .list _ => .none
  | .dict _ => .none
  | .none => .none
  | .bool b => .num (if b = true then 1 else 0)
  | .int i => .num i
  | .str x => .text x
def keyDs : List PyData → List NestedKey
  | [] => []
  | d :: ds => keyD d :: keyDs ds
end
section
variable {X : Cx} {pins : List (Addr × Obj)} {σ : L2.St} {H : Hp} {s : Shared}
mutual
theorem nst (I : Inv X pins σ H s) : ∀ {v : V} {d : PyData} {u : Value}, Dp X.K H v d → imm d = true → RelV v u → NestedIs s.heap (keyD d) u
  | _, _, u, .non, _, r => by
    obtain rfl : u = Value.none := r
    exact .none
  | _, _, u, .bl b, _, r => by
    obtain rfl : u = Value.bool b := r
    exact .bool rfl
  | _, _, u, .int i, _, r => by
    obtain ⟨t, rfl⟩ : ∃ t, u = Value.int i t := r
    exact .int i t
  | _, _, u, .str x, _, r => by
    obtain ⟨t, rfl⟩ : ∃ t, u = Value.str x t := r
    exact .text x t
  | _, _, u, .lst h a, i, _ => nomatch (show (false : Bool) = true from i)
  | _, _, u, .tup (a := p) h a, i, r => by
    obtain rfl : u = Value.ref p := r
    obtain ⟨its, rv, ⟨o, ho, hc, n, hd⟩, _⟩ := I.tuple h
    exact .tup ho hc hd (nstAll I a i rv)
theorem nstAll (I : Inv X pins σ H s) : ∀ {vs : List V} {ds : List PyData} {us : List Value}, DpAll X.K H vs ds → immAll ds = true → Vals vs us → NestedAll s.heap (keyDs ds) us
  | _, _, _, .nil, _, .nil => .nil
  | _, _, _, .cons h a, i, .cons r rs => .cons (nst I h (Bool.and_eq_true_iff.mp i).1 r) (nstAll I a (Bool.and_eq_true_iff.mp i).2 rs)
end
theorem pairsN (I : Inv X pins σ H s) : ∀ {ps : List Addr} {ks : List (Addr × PyData × V)}, Paired (fun p k => SqT X.K H p [.ref k.1, k.2.2] ∧ Dp X.K H (.ref k.1) k.2.1 ∧ imm k.2.1 = true ∧ (keyD k.2.1).depth ≤ 8) ps ks →
    ∃ prs : List (NestedKey × Addr × Value), prs.length = ps.length ∧ (∀ x ∈ prs, (nestedKind X.prog X.w).is s.heap x.1 x.2.1) ∧ ∀ (j : Nat) (x : NestedKey × Addr × Value), prs[j]? = some x → ∃ b, ps[j]? = some b ∧ IsTup s.heap b #[.ref x.2.1, x.2.2]
  | _, _, .nil => ⟨[], rfl, (fun x h => nomatch h), fun j x e => by simp at e⟩
  | _, _, .cons (a := p) (b := k) ⟨h1, h2, h3, h4⟩ t => by
    obtain ⟨prs, hl, his, hp⟩ := pairsN I t
    obtain ⟨its, rv, ht, _⟩ := I.tuple h1
    obtain ⟨u, y, ei, ru, ry⟩ := vals2 rv
    subst ei
    obtain rfl : u = Value.ref k.1 := ru
    refine ⟨(keyD k.2.1, k.1, y) :: prs, by rw [List.length_cons, List.length_cons, hl], fun x hx => ?_, fun j x e => ?_⟩
    · rcases List.mem_cons.mp hx with rfl | hx
      · exact ⟨nst I h2 h3 rfl, h4⟩
      · exact his x hx
    · cases j with
      | zero =>
        obtain rfl := Option.some.inj e
        exact ⟨p, rfl, ht⟩
      | succ j =>
        obtain ⟨b, e1, e2⟩ := hp j x (by simpa using e)
        exact ⟨b, by simpa using e1, e2⟩
end
theorem call_dictN {X : Cx} (hu : X.A.units + 65 < cLine) (hcalm : X.calm = true) : CallR X (.type "dict") (fun xs H Q => ∃ (a : Addr) (ps : List Addr) (ks : List (Addr × PyData × V)), xs = [.ref a] ∧ SqL X.K H a (ps.map V.ref) ∧
    Paired (fun p k => SqT X.K H p [.ref k.1, k.2.2] ∧ Dp X.K H (.ref k.1) k.2.1 ∧ imm k.2.1 = true ∧ (keyD k.2.1).depth ≤ 8) ps ks ∧ ∀ p, H p = none → Q (.ref p) H) := by
  intro pins s σ H xs us Q I r q
  obtain ⟨a, ps, ks, ex, hq, hp, q⟩ := q
  subst ex
  obtain ⟨u, eu, rx⟩ := vals1 r
  subst eu
  obtain rfl : u = Value.ref a := rx
  obtain ⟨its, rv, pl, hz⟩ := I.list hq
  have ei := refs_at rv
  subst ei
  rw [List.length_map] at hz
  obtain ⟨prs, hl, his, hpr⟩ := pairsN I hp
  obtain ⟨o, n, ho, hc, hd, hdat⟩ := pl
  have P := PairArg.list (prog := X.prog) (w := X.w) a (ps.map Value.ref).toArray (fun j => ps.getD j 0) (prs.map fun x => (Value.ref x.2.1, x.2.2))
  have rel : ∀ (j : Nat) (k v : Value), (prs.map fun x => (Value.ref x.2.1, x.2.2))[j]? = some (k, v) → ∃ x, prs[j]? = some x ∧ k = .ref x.2.1 ∧ v = x.2.2 := fun j k v e => by
    rw [List.getElem?_map] at e
    cases e' : prs[j]? with
    | none => rw [e'] at e; cases e
    | some x =>
      rw [e'] at e
      cases e
      exact ⟨x, rfl, rfl, rfl⟩
  refine dict_keyed (knd := nestedKind X.prog X.w) (kvs := pairsH prs) nestedKind_stays P (I.ok.hd hcalm) ?_ ⟨⟨o, n, ho, hc, hd, hdat⟩, ?_, fun j k v e => ?_⟩ ⟨prs, rfl, ⟨?_, fun i key v e => ?_⟩, his⟩ (nestedKind_stays.all) ?_ fun h' tk hd' hk => ?_
  · show X.A.units + 1 + 1 + 8 < cLine
    omega
  · simp [hl]
  · obtain ⟨x, e1, rfl, rfl⟩ := rel j k v e
    obtain ⟨b, e2, e3⟩ := hpr j x e1
    refine ⟨?_, .inl ?_⟩
    · simp [e2]
    · simp only [List.getD, e2, Option.getD_some]
      exact e3
  · rw [List.length_map]
  · obtain ⟨x, e1, rfl, rfl⟩ := rel i key v e
    exact ⟨x.1, x.2.1, e1, rfl⟩
  · rw [List.length_map, hl]
    exact hz
  · exact ⟨.ref s.heap.objs.size, H, I.kept fun b u e => hk b u (by simp) e, rfl, q _ (I.hok.fresh (Nat.le_refl _))⟩
/-! ### strewn, handed a tuple -/
def spStrewnT (K : PySem.W.Frag) : Sp := fun vs H Q _ => ∃ (a sl : Addr) (m : Nat) (b xs : List V), vs = [.ref a, .ref sl] ∧ H a = some (.lst b) ∧ BoxL m b ∧ m + xs.length < 900000 ∧ SqT K H sl xs ∧ xs.length ≤ 100000 ∧
  ∀ (H' : Hp) (l : Addr) (ys b' : List V), But a H H' → H l = none → H' l = some (.lst ys) → ys.Perm xs → H' a = some (.lst b') → BoxL (m + xs.length) b' → Q (.ref l) H'
section
variable {P : Program} {w : World} {K : PySem.W.Frag} {mg : Str → Option Value} {base : Heap}
theorem ok_strewnT (T : Bt mg) (c_law_take : C8.Cal P w K mg base 1 "_law_take" spTake []) (D : Dd K mg "_law_strewn" s__law_strewn P__law_strewn) : C8.Cal P w K mg base 2 "_law_strewn" (spStrewnT K) [] := by
  refine D.cal sc__law_strewn (fun vs H Q E h => ?_) (fun f cdv A outer s H vs Q E hr h => ?_)
  · obtain ⟨a, sl, m, b, xs, rfl, _⟩ := h
    rfl
  · obtain ⟨a, sl, m, b, xs, rfl, ha, hB, hm, hS, h1, q⟩ := h
    refine ⟨_, (pss_cons (ps_set (i := 2) sc__law_strewn.nd rfl (Or.inl rfl) (pe_lst pa_nil))
        (pss_cons (ps_for PassesOwn.never rfl (pi_tup (pv 1)) (pg_name (i := 3) sc__law_strewn.nd rfl (Or.inl rfl))
          (pss_one (ps_expr (pe_bm PySem.F.plainAttrs_list PySem.F.slot_list_insert PySem.F.type_list_insert mt_insert (pv 2) (pa_cons (C8.pe_c c_law_take hr (by decide) (by rfl) (pa_cons (pv 0) (pa_cons (pe_op op_add (pe_callB call_len_seq (by rfl) T.len PySem.boot_len (pa_cons (pv 2) pa_nil)) pe_int) pa_nil))) (pa_cons (pv 3) pa_nil))))))
        (pss_one (ps_ret (pv 2))))), ?_⟩
    refine ⟨by show 0 ≤ sizeLine; decide, fun l nl => ?_⟩
    have nla : a ≠ l := ne_of_none ha nl
    have s1 := same_upd (o := .lst []) nl
    refine ⟨_, rfl, sl, rfl, ⟨_, Same.seqT s1 hS⟩, for_tup (K := K) (a := sl) (xs := xs) (fun i σ H3 => ∃ y ys b', σ = [some (.ref a), some (.ref sl), some (.ref l), y] ∧ But a H H3 ∧ H3 l = some (.lst ys) ∧ ys.Perm (xs.take i) ∧ H3 a = some (.lst b') ∧ BoxL (m + i) b' ∧ i ≤ xs.length)
      ⟨none, [], b, rfl, But.of s1, upd_same, .nil, s1 _ _ ha, hB, Nat.zero_le _⟩ (fun i σ H3 _ ⟨_, _, _, _, bt, _⟩ => (KeepT.but ha bt).seqT hS) ?_ ?_⟩
    · rintro i x σ H3 hx ⟨y, ys, b', rfl, bt, hl, hp, hb', hB', hi⟩
      have hi2 : i < xs.length := (List.getElem?_eq_some_iff.mp hx).1
      have ly : ys.length = i := by
        rw [hp.length_eq, List.length_take]
        omega
      refine ⟨_, rfl, .inl ⟨rfl, _, SqL.of hl⟩, _, rfl, _, rfl, l, ys, rfl, .inl (SqL.of hl), _, _, rfl, rfl, a, _, _, b', rfl, hb', hB', by omega, by omega, by omega, fun r b2 r0 r1 hB2 => ?_⟩
      have hl2 : (upd H3 a (.lst b2)) l = some (.lst ys) := by
        rw [upd_ne nla.symm]
        exact hl
      refine ⟨_, rfl, l, ys, r, x, rfl, rfl, hl2, by rw [ly]; exact Nat.lt_of_le_of_lt (Nat.le_of_lt hi2) (Nat.lt_of_le_of_lt h1 (by decide)), r0, by omega, ?_⟩
      have bt2 : But a H (upd (upd H3 a (.lst b2)) l (.lst (ys.take r.toNat ++ [x] ++ ys.drop r.toNat))) := fun c o nc hc => by
        rw [upd_ne (ne_of_none hc nl), upd_ne nc]
        exact bt _ _ nc hc
      refine ⟨_, _, b2, rfl, bt2, upd_same, ?_, by rw [upd_ne nla, upd_same], hB2, by omega⟩
      rw [List.take_add_one, hx]
      refine List.Perm.trans ?_ (List.Perm.append hp (List.Perm.refl [x]))
      rw [List.append_assoc]
      refine List.Perm.trans (List.Perm.append_left _ List.perm_append_comm) ?_
      rw [← List.append_assoc, List.take_append_drop]
    · rintro σ H3 ⟨y, ys, b', rfl, bt, hl, hp, hb', hB', hi⟩
      rw [List.take_length] at hp
      exact ⟨_, rfl, q _ l ys b' bt nl hl hp hb' hB'⟩
end
/-! ### dicts of rows -/
theorem merge_out (k : Key) : ∀ (kvs acc : List (Key × V)), k ∉ kvs.map (·.1) → valV (mergeK acc kvs) k = valV acc k
  | [], acc, _ => rfl
  | p :: kvs, acc, h => by
    show valV (mergeK (putK acc p.1 p.2) kvs) k = _
    rw [merge_out k kvs _ fun z => h (List.mem_cons_of_mem _ z), valV_put, if_neg fun z => h (by rw [z]; exact List.mem_cons_self ..)]
theorem merge_in : ∀ (kvs acc : List (Key × V)), (kvs.map (·.1)).Nodup → ∀ p ∈ kvs, valV (mergeK acc kvs) p.1 = some p.2
  | [], _, _, p, h => nomatch h
  | q :: kvs, acc, hn, p, h => by
    rw [List.map_cons, List.nodup_cons] at hn
    show valV (mergeK (putK acc q.1 q.2) kvs) p.1 = _
    rcases List.mem_cons.mp h with rfl | h
    · rw [merge_out p.1 kvs _ hn.1, valV_put, if_pos rfl]
    · exact merge_in kvs _ hn.2 p h
/-- a row of three: a name, and two more -/
structure T3 where
  k : List Nat
  d1 : PyData
  d2 : PyData
def T3.d (t : T3) : PyData := .tuple [strD t.k, t.d1, t.d2]
def T3.r (t : T3) : PyData := .tuple [t.d1, t.d2]
def kS (k : List Nat) : Key := Sum.inr (SX.S k)
theorem kS_inj {a b : List Nat} (h : kS a = kS b) : a = b := SX.S_inj (Sum.inr.inj h)
def Prs (K : PySem.W.Frag) (U : Hp) (ps : List Addr) (ts : List T3) : Prop := Paired (fun p t => ∃ v, SqT K U p [.str (SX.S t.k), v] ∧ Dp K U v t.r) ps ts
theorem Prs.kvs {K : PySem.W.Frag} {U : Hp} : ∀ {ps : List Addr} {ts : List T3}, Prs K U ps ts → ∃ kvs : List (Key × V), Paired (fun p kv => SqT K U p [kV kv.1, kv.2]) ps kvs ∧ kvs.map (·.1) = ts.map (fun t => kS t.k) ∧ ∀ t ∈ ts, ∃ v, (kS t.k, v) ∈ kvs ∧ Dp K U v t.r
  | _, _, .nil => ⟨[], .nil, rfl, fun t h => nomatch h⟩
  | _, _, .cons (b := t0) ⟨v, h1, h2⟩ r => by
    obtain ⟨kvs, q1, q2, q3⟩ := Prs.kvs r
    refine ⟨(kS t0.k, v) :: kvs, .cons h1 q1, by rw [List.map_cons, List.map_cons, q2], fun t ht => ?_⟩
    rcases List.mem_cons.mp ht with rfl | ht
    · exact ⟨v, List.mem_cons_self .., h2⟩
    · obtain ⟨v', h3, h4⟩ := q3 t ht
      exact ⟨v', List.mem_cons_of_mem _ h3, h4⟩
theorem paired_snoc {α β : Type} {R : α → β → Prop} : ∀ {xs : List α} {ys : List β} {x : α} {y : β}, Paired R xs ys → R x y → Paired R (xs ++ [x]) (ys ++ [y])
  | _, _, _, _, .nil, h => .cons h .nil
  | _, _, _, _, .cons a r, h => .cons a (paired_snoc r h)
theorem paired_mono {α β : Type} {R S : α → β → Prop} (f : ∀ a b, R a b → S a b) : ∀ {xs : List α} {ys : List β}, Paired R xs ys → Paired S xs ys
  | _, _, .nil => .nil
  | _, _, .cons a r => .cons (f _ _ a) (paired_mono f r)
theorem paired_len {α β : Type} {R : α → β → Prop} : ∀ {xs : List α} {ys : List β}, Paired R xs ys → xs.length = ys.length
  | _, _, .nil => rfl
  | _, _, .cons _ r => by rw [List.length_cons, List.length_cons, paired_len r]
theorem t3_at {K : PySem.W.Frag} {H : Hp} {v : V} {t : T3} (h : Dp K H v t.d) : ∃ q v1 v2, v = .ref q ∧ SqT K H q [.str (SX.S t.k), v1, v2] ∧ Dp K H v1 t.d1 ∧ Dp K H v2 t.d2 := by
  cases h with
  | tup hS hA =>
    cases hA with
    | cons a1 hA =>
      cases hA with
      | cons a2 hA =>
        cases hA with
        | cons a3 hA =>
          cases hA
          cases a1
          exact ⟨_, _, _, rfl, hS, a2, a3⟩
theorem prs_keep {K : PySem.W.Frag} {U U' : Hp} (k : KeepT U U') {ps : List Addr} {ts : List T3} (hi : ∀ t ∈ ts, imm t.r = true) (h : Prs K U ps ts) : Prs K U' ps ts := by
  unfold Prs at *
  induction h with
  | nil => exact .nil
  | cons a r ih =>
    obtain ⟨v, h1, h2⟩ := a
    exact .cons ⟨v, k.seqT h1, dp_imm k h2 (hi _ (List.mem_cons_self ..))⟩ (ih fun t ht => hi t (List.mem_cons_of_mem _ ht))
/-- [(row[0], row[1:]) for row in rows] -/
theorem lc_of {K : PySem.W.Frag} {L D : Addr} {vs : List V} {ts : List T3} {x0 x1 x2 x3 x4 x5 x6 x7 x8 x9 x10 x11 : Option V} {Y : Hp} {Qd : Hp → Prop} (hL : Y L = some (.lst vs)) (hv : DpAll K Y vs (ts.map T3.d)) (hi : ∀ t ∈ ts, imm t.r = true) (hl : ts.length ≤ 100) (nD : Y D = none)
    (hd : ∀ (U : Hp) (ps : List Addr), Same Y U → U D = some (.lst (ps.map V.ref)) → Prs K U ps ts → Qd U) :
    ∃ W : Nat → Nat → Hp → Prop, (∃ m, W 0 m (upd Y D (.lst []))) ∧ ∀ i m H, W i m H →
      ((Itl K L).stop i H ∧ Qd H) ∨ ((Itl K L).go i H ∧ ∃ Nx : Hp → Prop, (∀ H', Nx H' → ∃ m', m' < m ∧ W (i + 1) m' H') ∧ ∀ x H', (Itl K L).yld i H x H' → gName 10 x (wipe [x0, x1, x2, x3, x4, x5, x6, x7, x8, x9, x10, x11] [10]) H' fun σ2 H2 => wipe σ2 [10] = wipe [x0, x1, x2, x3, x4, x5, x6, x7, x8, x9, x10, x11] [10] ∧ tYes σ2 H2 fun b H3 =>
        if b = true then tTup (tCons (tOp (rIxT K) (tVar 10) (tC (V.int 0))) (tCons (tSl (rSlAny K) (tVar 10) (tPart (tC (V.int 1))) tNoPart) tNil)) σ2 H3 fun y H4 => ∃ acc, H4 D = some (.lst acc) ∧ acc.length < sizeLine ∧ Nx (upd H4 D (.lst (acc ++ [y]))) else Nx H3) := by
  have lv := dpAll_len hv
  rw [List.length_map] at lv
  refine lc_list (K := K) (a := L) (xs := vs) (fun j U => Same Y U ∧ ∃ ps : List Addr, U D = some (.lst (ps.map V.ref)) ∧ Prs K U ps (ts.take j)) ⟨same_upd nD, [], upd_same, .nil⟩ (fun j U _ h => SqL.of (h.1 _ _ hL)) ?_ ?_
  · rintro j x U hx ⟨sU, ps, hD, hp⟩
    obtain ⟨dd, hdd, hxd⟩ := dpAll_at hv hx
    rw [List.getElem?_map] at hdd
    obtain ⟨t, ht, rfl⟩ : ∃ t, ts[j]? = some t ∧ dd = t.d := by
      cases h : ts[j]? with
      | none => rw [h] at hdd; cases hdd
      | some e => rw [h] at hdd; exact ⟨e, rfl, (Option.some.inj hdd).symm⟩
    have hj : j < ts.length := (List.getElem?_eq_some_iff.mp ht).1
    have tk : ts.take (j + 1) = ts.take j ++ [t] := by rw [List.take_add_one, ht]; rfl
    have lp := paired_len hp
    rw [List.length_take] at lp
    obtain ⟨q, v1, v2, rfl, hq, h1, h2⟩ := t3_at (dp_same sU hxd)
    refine ⟨rfl, yesT ?_⟩
    refine ⟨_, rfl, q, _, 0, .str (SX.S t.k), rfl, rfl, hq, atI_nat (j := 0) rfl, _, rfl, 1, rfl, q, _, rfl, hq, fun U2 t2 s2 ht2 => ?_⟩
    have ht2 : SqT K U2 t2 [v1, v2] := ht2
    refine ⟨by show 2 ≤ sizeLine; decide, fun p3 n3 => ?_⟩
    have s3 := same_upd (o := .tup [.str (SX.S t.k), .ref t2]) n3
    have s23 := s2.trans s3
    have hD3 := s23 _ _ hD
    refine ⟨_, hD3, small1000 (by rw [List.length_map]; omega), ?_, ps ++ [p3], ?_, ?_⟩
    · exact Same.at_ (sU.trans s23) nD
    · rw [List.map_append]
      exact upd_same
    · rw [tk]
      have kk : KeepT (upd U2 p3 (.tup [.str (SX.S t.k), .ref t2])) (upd (upd U2 p3 (.tup [.str (SX.S t.k), .ref t2])) D (.lst (ps.map V.ref ++ [.ref p3]))) := KeepT.at_ hD3 lst_no
      have hit := hi t (List.mem_of_getElem? ht)
      have dv : Dp K U2 (.ref t2) t.r := .tup ht2 (.cons (dp_same s2 h1) (.cons (dp_same s2 h2) .nil))
      exact paired_snoc (prs_keep ((KeepT.of s23).trans kk) (fun t h => hi t (List.mem_of_mem_take h)) hp) ⟨.ref t2, kk.seqT (SqT.of upd_same), dp_imm ((KeepT.of s3).trans kk) dv hit⟩
  · rintro U ⟨sU, ps, hD, hp⟩
    rw [lv, List.take_length] at hp
    exact hd U ps sU hD hp
/-! ### a grammar on the heap, while it is drawn -/
structure Gs (K : PySem.W.Frag) (H Y : Hp) (a gd ls lm lr of : Addr) (rs : List SRow) (ms : List MRow) (ru : List RRow) (roof : Nat) (kvs : List (Key × V)) : Prop where
  bt : But a H Y
  hgd : Y gd = some (.dK kvs)
  nH : H gd = none
  cap : valV kvs (Sum.inr "cap") = some (.int (roof : Nat))
  so : valV kvs (Sum.inr "sorts") = some (.ref ls)
  mak : valV kvs (Sum.inr "makings") = some (.ref lm)
  rl : valV kvs (Sum.inr "rules") = some (.ref lr)
  ofv : valV kvs (Sum.inr "of") = some (.ref of)
  hls : ∃ sv, Y ls = some (.lst sv) ∧ DpAll K Y sv (rs.map SRow.d)
  hlm : ∃ mv, Y lm = some (.lst mv) ∧ DpAll K Y mv (ms.map MRow.d)
  hlr : ∃ rv, Y lr = some (.lst rv) ∧ DpAll K Y rv (ru.map RRow.d)
  hof : ∃ ofk, Y of = some (.dK ofk) ∧ ∀ r ∈ rs, ∃ v, valV ofk (kS r.nm) = some v ∧ Dp K Y v (.tuple [.tuple (r.dn.map strD), .tuple (r.up.map strD)])
  n1 : ls ≠ a
  n2 : lm ≠ a
  n3 : lr ≠ a
  n4 : of ≠ gd
theorem up_imm (r : SRow) : imm (.tuple [.tuple (r.dn.map strD), .tuple (r.up.map strD)]) = true := by
  show (immAll (r.dn.map strD) && (immAll (r.up.map strD) && true)) = true
  rw [immAll_map strD_imm, immAll_map strD_imm]
  rfl
theorem Gs.go {K : PySem.W.Frag} {H Y Z : Hp} {a gd ls lm lr of : Addr} {rs : List SRow} {ms : List MRow} {ru : List RRow} {roof : Nat} {kvs : List (Key × V)} {b : List V} (h : Gs K H Y a gd ls lm lr of rs ms ru roof kvs) (hb : Y a = some (.lst b)) (t : But a Y Z) : Gs K H Z a gd ls lm lr of rs ms ru roof kvs := by
  have k := KeepT.but hb t
  have nd : ∀ {d : Addr} {kv : List (Key × V)}, Y d = some (.dK kv) → d ≠ a := fun {d kv} h z => by
    rw [z, hb] at h
    cases h
  obtain ⟨sv, l1, l2⟩ := h.hls
  obtain ⟨mv, m1, m2⟩ := h.hlm
  obtain ⟨rv, r1, r2⟩ := h.hlr
  obtain ⟨ofk, o1, o2⟩ := h.hof
  exact ⟨h.bt.trans t, t _ _ (nd h.hgd) h.hgd, h.nH, h.cap, h.so, h.mak, h.rl, h.ofv, ⟨sv, t _ _ h.n1 l1, dpAll_imm k l2 (immAll_map SRow.imm rs)⟩, ⟨mv, t _ _ h.n2 m1, dpAll_imm k m2 (immAll_map MRow.imm ms)⟩, ⟨rv, t _ _ h.n3 r1, dpAll_imm k r2 (immAll_map RRow.imm ru)⟩, ⟨ofk, t _ _ (nd o1) o1, fun r hr => by
    obtain ⟨v, h1, h2⟩ := o2 r hr
    exact ⟨v, h1, dp_imm k h2 (up_imm r)⟩⟩, h.n1, h.n2, h.n3, h.n4⟩
/-- g[..] = .. -/
theorem Gs.set {K : PySem.W.Frag} {H Y : Hp} {a gd ls lm lr of lm' lr' : Addr} {rs : List SRow} {ms ms' : List MRow} {ru ru' : List RRow} {roof : Nat} {kvs kvs' : List (Key × V)} (h : Gs K H Y a gd ls lm lr of rs ms ru roof kvs)
    (hlm : ∃ mv, Y lm' = some (.lst mv) ∧ DpAll K Y mv (ms'.map MRow.d)) (n2 : lm' ≠ a) (hlr : ∃ rv, Y lr' = some (.lst rv) ∧ DpAll K Y rv (ru'.map RRow.d)) (n3 : lr' ≠ a)
    (cap : valV kvs' (Sum.inr "cap") = some (.int (roof : Nat))) (so : valV kvs' (Sum.inr "sorts") = some (.ref ls)) (mak : valV kvs' (Sum.inr "makings") = some (.ref lm')) (rl : valV kvs' (Sum.inr "rules") = some (.ref lr')) (ofv : valV kvs' (Sum.inr "of") = some (.ref of)) :
    Gs K H (upd Y gd (.dK kvs')) a gd ls lm' lr' of rs ms' ru' roof kvs' := by
  have k : KeepT Y (upd Y gd (.dK kvs')) := KeepT.at_ h.hgd dK_no
  have nl : ∀ {d : Addr} {xs : List V}, Y d = some (.lst xs) → d ≠ gd := fun {d xs} h' z => by
    rw [z, h.hgd] at h'
    cases h'
  obtain ⟨sv, l1, l2⟩ := h.hls
  obtain ⟨mv, m1, m2⟩ := hlm
  obtain ⟨rv, r1, r2⟩ := hlr
  obtain ⟨ofk, o1, o2⟩ := h.hof
  refine ⟨fun c o nc hc => ?_, upd_same, h.nH, cap, so, mak, rl, ofv, ⟨sv, ?_, dpAll_imm k l2 (immAll_map SRow.imm rs)⟩, ⟨mv, ?_, dpAll_imm k m2 (immAll_map MRow.imm ms')⟩, ⟨rv, ?_, dpAll_imm k r2 (immAll_map RRow.imm ru')⟩, ⟨ofk, ?_, fun r hr => ?_⟩, h.n1, n2, n3, h.n4⟩
  · rw [upd_ne (ne_of_none hc h.nH)]
    exact h.bt c o nc hc
  · rw [upd_ne (nl l1)]; exact l1
  · rw [upd_ne (nl m1)]; exact m1
  · rw [upd_ne (nl r1)]; exact r1
  · rw [upd_ne h.n4]; exact o1
  · obtain ⟨v, h1, h2⟩ := o2 r hr
    exact ⟨v, h1, dp_imm k h2 (up_imm r)⟩
/-- the phases -/
def Ph (Y : Hp) (a ph : Addr) (rs : List SRow) (phs : List Nat → List (List Nat)) : Prop := ∃ phk, Y ph = some (.dK phk) ∧ ∀ r ∈ rs, ∃ pl, valV phk (Sum.inr (SX.S r.nm)) = some (.ref pl) ∧ pl ≠ a ∧ Y pl = some (.lst (nmV (phs r.nm))) ∧ (phs r.nm).Perm (r.dn ++ r.up)
theorem Ph.go {Y Z : Hp} {a ph : Addr} {rs : List SRow} {phs : List Nat → List (List Nat)} {b : List V} (h : Ph Y a ph rs phs) (hb : Y a = some (.lst b)) (t : But a Y Z) : Ph Z a ph rs phs := by
  obtain ⟨phk, p1, p2⟩ := h
  refine ⟨phk, t _ _ (fun z => by rw [z, hb] at p1; cases p1) p1, fun r hr => ?_⟩
  obtain ⟨pl, h1, h2, h3, h4⟩ := p2 r hr
  exact ⟨pl, h1, h2, t _ _ h2 h3, h4⟩
theorem Ph.set {Y : Hp} {a ph gd : Addr} {rs : List SRow} {phs : List Nat → List (List Nat)} {kvs kvs' : List (Key × V)} (h : Ph Y a ph rs phs) (hg : Y gd = some (.dK kvs)) (n : ph ≠ gd) : Ph (upd Y gd (.dK kvs')) a ph rs phs := by
  obtain ⟨phk, p1, p2⟩ := h
  refine ⟨phk, by rw [upd_ne n]; exact p1, fun r hr => ?_⟩
  obtain ⟨pl, h1, h2, h3, h4⟩ := p2 r hr
  exact ⟨pl, h1, h2, by rw [upd_ne (fun z => by rw [z, hg] at h3; cases h3)]; exact h3, h4⟩
def sT (r : SRow) : T3 := ⟨r.nm, .tuple (r.dn.map strD), .tuple (r.up.map strD)⟩
def mT (r : MRow) : T3 := ⟨r.nm, strD r.so, .tuple (r.pt.map strD)⟩
theorem sT_d (rs : List SRow) : rs.map SRow.d = (rs.map sT).map T3.d := by
  rw [List.map_map]
  rfl
theorem mT_d (ms : List MRow) : ms.map MRow.d = (ms.map mT).map T3.d := by
  rw [List.map_map]
  rfl
/-- the rules of all makings -/
inductive RuAll (rs : List SRow) (roof : Nat) : List MRow → List RRow → Prop
  | nil : RuAll rs roof [] []
  | snoc {ms : List MRow} {ru pr : List RRow} {mr : MRow} {ks : List (List Nat)} : RuAll rs roof ms ru → RulesOk rs mr roof ks pr → RuAll rs roof (ms ++ [mr]) (ru ++ pr)
structure MOk (rs : List SRow) (mr : MRow) : Prop where
  nm : NmOk mr.nm
  so : ∀ k ∈ mr.places, ∃ r ∈ rs, r.nm = k
  p2 : mr.pt.length ≤ 2
structure GramOk (rs : List SRow) (ms : List MRow) (ru : List RRow) (roof : Nat) : Prop where
  so : SortsOk rs
  s1 : 1 ≤ rs.length
  nd : (ms.map MRow.nm).Nodup
  ok : ∀ m ∈ ms, MOk rs m
  m8 : ms.length ≤ 8
  m1 : rs.length ≤ ms.length
  ru : RuAll rs roof ms ru
  rf : roof ≤ 9
structure GramIn (K : PySem.W.Frag) (Y : Hp) (a gd : Addr) (rs : List SRow) (ms : List MRow) (ru : List RRow) (roof : Nat) : Prop where
  ex : ∃ ls lm lr of kvs, Gs K (fun _ => none) Y a gd ls lm lr of rs ms ru roof kvs ∧ ∃ by_ byk, valV kvs (Sum.inr "by") = some (.ref by_) ∧ by_ ≠ gd ∧ Y by_ = some (.dK byk) ∧ ∀ m ∈ ms, ∃ v, valV byk (kS m.nm) = some v ∧ Dp K Y v (.tuple [strD m.so, .tuple (m.pt.map strD)])
abbrev s__law_drawn : Stmt := top 21
abbrev N__law_drawn : List Str := ["_law_box", "_law_roof", "_law_wild_here", "_law_kinds", "_law_g", "_law_phases", "_law_k", "_law_name", "_law_kind", "_law_size", "_law_row", "_law_turn"]
abbrev P__law_drawn : List Str := ["_law_box", "_law_roof", "_law_wild_here"]
theorem sc__law_drawn : FnScope N__law_drawn P__law_drawn (defScope s__law_drawn) := ⟨rfl, rfl, rfl, by decide +kernel, rfl, by decide +kernel, by decide +kernel⟩
structure Dw (mg : Str → Option Value) : Prop where
  range : mg "range" = none
  len : mg "len" = none
  dict : mg "dict" = none
  tuple : mg "tuple" = none
  enumerate : mg "enumerate" = none
def spDrawn (K : PySem.W.Frag) : Sp := fun vs H Q _ => ∃ (a : Addr) (roof m : Nat) (wv : V) (wb : Bool) (wn : Nat) (b : List V), vs = [.ref a, .int roof, wv] ∧ Dp K H wv (.tuple [.bool wb, .int (wn : Nat)]) ∧ 0 < wn ∧ wn < 1000000 ∧ roof ≤ 9 ∧ H a = some (.lst b) ∧ BoxL m b ∧ m + 8000 < 900000 ∧
  ∀ (H' : Hp) (gd : Addr) (rs : List SRow) (ms : List MRow) (ru : List RRow) (b' : List V), But a H H' → H gd = none → GramIn K H' a gd rs ms ru roof → GramOk rs ms ru roof → H' a = some (.lst b') → BoxL (m + 8000) b' → Q (.ref gd) H'
theorem find_row {xs : List (SRow × Addr × List (List Nat))} (hn : (xs.map fun x => x.1.nm).Nodup) : ∀ x ∈ xs, xs.find? (fun y => decide (y.1.nm = x.1.nm)) = some x := by
  induction xs with
  | nil => exact fun x h => nomatch h
  | cons y ys ih =>
    intro x hx
    rw [List.map_cons, List.nodup_cons] at hn
    rw [List.find?_cons]
    rcases List.mem_cons.mp hx with rfl | hx
    · rw [decide_eq_true rfl]
    · rw [decide_eq_false fun z => hn.1 (by rw [z]; exact List.mem_map_of_mem hx)]
      exact ih hn.2 x hx
theorem paired_mem {α β : Type} {R : α → β → Prop} : ∀ {xs : List α} {ys : List β}, Paired R xs ys → ∀ y ∈ ys, ∃ x, R x y
  | _, _, .nil, y, h => nomatch h
  | _, _, .cons a r, y, h => by
    rcases List.mem_cons.mp h with rfl | h
    · exact ⟨_, a⟩
    · exact paired_mem r y h
theorem paired_map {α β γ : Type} {R : α → γ → Prop} {f : β → γ} : ∀ {xs : List α} {ys : List β}, Paired (fun x y => R x (f y)) xs ys → Paired R xs (ys.map f)
  | _, _, .nil => .nil
  | _, _, .cons a r => .cons a (paired_map r)
theorem names_dp {K : PySem.W.Frag} {H : Hp} {v : V} {ws : List (List Nat)} (h : Dp K H v (.tuple (ws.map strD))) : ∃ t, v = .ref t ∧ SqT K H t (nmV ws) := by
  cases h with
  | tup h1 h2 =>
    rw [names_of h2] at h1
    exact ⟨_, rfl, h1⟩
theorem rr_at {K : PySem.W.Frag} {H : Hp} {v : V} {r : RRow} (h : Dp K H v r.d) : ∃ q v2 v4, v = .ref q ∧ SqT K H q [.str (SX.S r.ma), v2, .str (SX.S r.op), v4] ∧ Dp K H v2 r.tg.d := by
  cases h with
  | tup hS hA =>
    cases hA with
    | cons a1 hA =>
      cases hA with
      | cons a2 hA =>
        cases hA with
        | cons a3 hA =>
          cases hA with
          | cons a4 hA =>
            cases hA
            cases a1
            cases a3
            exact ⟨_, _, _, rfl, hS, a2⟩
theorem m_imm (m : MRow) : imm (mT m).r = true := by
  show (true && (immAll (m.pt.map strD) && true)) = true
  rw [immAll_map strD_imm]
  rfl
theorem key_depth (w : List Nat) (e : En) : (keyD (.tuple [strD w, e.d])).depth ≤ 8 := by
  cases e with
  | sp p w' => exact (by decide : 2 ≤ 8)
  | kept w' => exact (by decide : 2 ≤ 8)
theorem Gs.any {K : PySem.W.Frag} {H Y : Hp} {a gd ls lm lr of : Addr} {rs : List SRow} {ms : List MRow} {ru : List RRow} {roof : Nat} {kvs : List (Key × V)} (h : Gs K H Y a gd ls lm lr of rs ms ru roof kvs) : Gs K (fun _ => none) Y a gd ls lm lr of rs ms ru roof kvs :=
  { h with bt := (fun c o _ hc => nomatch hc), nH := rfl }
section
variable {P : Program} {w : World} {K : PySem.W.Frag} {mg : Str → Option Value} {base : Heap}
theorem ok_drawn (T : Dw mg) (c_law_take : C8.Cal P w K mg base 1 "_law_take" spTake []) (c_law_named : C8.Cal P w K mg base 2 "_law_named" spNamed []) (c_law_strewn : C8.Cal P w K mg base 2 "_law_strewn" (spStrewnT K) []) (c_law_one_of : C8.Cal P w K mg base 2 "_law_one_of" (spOneOf K) []) (c_law_sort_rows : C8.Cal P w K mg base 3 "_law_sort_rows" (spSortRows K) []) (c_law_rules_for : C8.Cal P w K mg base 3 "_law_rules_for" (spRules K) [])
    (D : Dd K mg "_law_drawn" s__law_drawn P__law_drawn) : C8.Cal P w K mg base 4 "_law_drawn" (spDrawn K) [] := by
  refine D.cal sc__law_drawn (fun vs H Q E h => ?_) (fun f cdv A outer s H vs Q E hr h => ?_)
  · obtain ⟨a, roof, m, wv, wb, wn, b, rfl, _⟩ := h
    rfl
  · obtain ⟨a, roof, m, wv, wb, wn, b, rfl, hwv, w0, w1, hroof, ha, hB, hm, q⟩ := h
    refine ⟨_, (C8.pss_cut (ps_set (i := 3) sc__law_drawn.nd rfl (Or.inr rfl) (C8.pe_c c_law_sort_rows hr (by decide) (by rfl) (pa_cons (pv 0) (pa_cons (pe_op op_add pe_int (C8.pe_c c_law_take hr (by decide) (by rfl) (pa_cons (pv 0) (pa_cons pe_int pa_nil)))) pa_nil))))
        (C8.pss_cut (ps_set (i := 4) sc__law_drawn.nd rfl (Or.inl rfl) (pe_disp (pps_cons pe_str (pv 1) (pps_cons pe_str (pv 3) (pps_cons pe_str (pe_lst pa_nil) (pps_cons pe_str (pe_lst pa_nil) (pps_cons pe_str (pe_callTy (call_dictP rfl) (by rfl) T.dict (by decide +kernel) (pa_cons (pe_lc (own := [("_law_row", 10)]) (by exact rfl) sc__law_drawn.nd (pi_list (pv 3)) (blkOk_by (own := [("_law_row", 10)]) (N := N__law_drawn) (sc := defScope s__law_drawn) (by decide +kernel)) (fun _ _ _ _ _ => (pg_name (i := 10) sc__law_drawn.nd rfl (Or.inl rfl))) (fun _ _ _ _ _ => pts_nil) (fun _ _ _ _ _ => (pe_tup (pa_cons (pe_ix (r := rIxT K) ix_tup (pv 10) pe_int (fun _ _ => rfl)) (pa_cons (pe_slice (r := rSlAny K) sl_any (pv 10) (po_some pe_int) po_none) pa_nil))))) pa_nil)) pps_nil))))) (by rfl) (by rfl) (fun z => by cases z) (by decide)))
        (C8.pss_cut (ps_set (i := 5) sc__law_drawn.nd rfl (Or.inl rfl) (pe_callTy (call_dictP rfl) (by rfl) T.dict (by decide +kernel) (pa_cons (pe_lc (own := [("_law_row", 10)]) (by exact rfl) sc__law_drawn.nd (pi_list (pv 3)) (blkOk_by (own := [("_law_row", 10)]) (N := N__law_drawn) (sc := defScope s__law_drawn) (by decide +kernel)) (fun _ _ _ _ _ => (pg_name (i := 10) sc__law_drawn.nd rfl (Or.inl rfl))) (fun _ _ _ _ _ => pts_nil) (fun _ _ _ _ _ => (pe_tup (pa_cons (pe_ix (r := rIxT K) ix_tup (pv 10) pe_int (fun _ _ => rfl)) (pa_cons (C8.pe_c c_law_strewn hr (by decide) (by rfl) (pa_cons (pv 0) (pa_cons (pe_op (r := rCatAny K) op_catAny (pe_ix (r := rIxT K) ix_tup (pv 10) pe_int (fun _ _ => rfl)) (pe_ix (r := rIxT K) ix_tup (pv 10) pe_int (fun _ _ => rfl))) pa_nil))) pa_nil))))) pa_nil)))
        (C8.pss_cut (ps_for PassesOwn.never rfl (pi_enum (by rfl) T.enumerate (pa_cons (C8.pe_c c_law_named hr (by decide) (by rfl) (pa_cons (pv 0) (pa_cons (pe_op op_add (pe_callB call_len_seq (by rfl) T.len PySem.boot_len (pa_cons (pv 3) pa_nil)) (C8.pe_c c_law_take hr (by decide) (by rfl) (pa_cons (pv 0) (pa_cons (pe_op op_sub pe_int (pe_callB call_len_seq (by rfl) T.len PySem.boot_len (pa_cons (pv 3) pa_nil))) pa_nil)))) pa_nil))) pa_nil)) (pg_tup rfl (pgs_cons (pg_name (i := 6) sc__law_drawn.nd rfl (Or.inl rfl)) (pgs_cons (pg_name (i := 7) sc__law_drawn.nd rfl (Or.inl rfl)) pgs_nil)))
          (pss_cons (ps_par rfl sc__law_drawn.nd (i := 8) (j := 9) rfl rfl (by decide) rfl rfl (pa_cons (pe_ix (r := rIxT K) ix_tup (C8.pe_c c_law_one_of hr (by decide) (by rfl) (pa_cons (pv 0) (pa_cons (pv 3) pa_nil))) pe_int (fun _ _ => rfl)) (pa_cons (pe_ix ix_list (pe_lst (pa_cons pe_int (pa_cons pe_int (pa_cons pe_int (pa_cons pe_int pa_nil))))) (C8.pe_c c_law_take hr (by decide) (by rfl) (pa_cons (pv 0) (pa_cons pe_int pa_nil))) (fun _ _ => rfl)) pa_nil)) (by rfl))
        (C8.pss_cut (ps_if (PW.pt (pw_and (pt_cmpR op_lt (pv 6) (pe_callB call_len_seq (by rfl) T.len PySem.boot_len (pa_cons (pv 3) pa_nil)) (nomark _)) (pw_and1 (pt_cmpR op_gt (C8.pe_c c_law_take hr (by decide) (by rfl) (pa_cons (pv 0) (pa_cons pe_int pa_nil))) pe_int (nomark _)))))
          (pss_one (ps_par rfl sc__law_drawn.nd (i := 8) (j := 9) rfl rfl (by decide) rfl rfl (pa_cons (pe_ix (r := rIxT K) ix_tup (pe_ix ix_list (pv 3) (pv 6) (fun _ _ => rfl)) pe_int (fun _ _ => rfl)) (pa_cons pe_int pa_nil)) (by rfl)))
          pss_nil)
        (C8.pss_cut (ps_set (i := 10) sc__law_drawn.nd rfl (Or.inl rfl) (pe_tup (pa_cons (pv 7) (pa_cons (pv 8) (pa_cons (pe_callTy call_tuple_of (by rfl) T.tuple (by decide +kernel) (pa_cons (pe_lc (own := [("_law_turn", 11)]) (by exact rfl) sc__law_drawn.nd (pi_range1 rfl T.range (pa_cons (pv 9) pa_nil)) (blkOk_by (own := [("_law_turn", 11)]) (N := N__law_drawn) (sc := defScope s__law_drawn) (by decide +kernel)) (fun _ _ _ _ _ => (pg_name (i := 11) sc__law_drawn.nd rfl (Or.inl rfl))) (fun _ _ _ _ _ => pts_nil) (fun _ _ _ _ _ => (pe_ix (r := rIxT K) ix_tup (C8.pe_c c_law_one_of hr (by decide) (by rfl) (pa_cons (pv 0) (pa_cons (pv 3) pa_nil))) pe_int (fun _ _ => rfl)))) pa_nil)) pa_nil)))))
        (C8.pss_cut (ps_dput (hu_of hr) (pv 4) pe_str (pe_op op_cat (pe_dget (hu_of hr) (pv 4) pe_str (fun _ _ => rfl)) (pe_lst (pa_cons (pv 10) pa_nil))) (by rfl))
        (pss_one (ps_dput (hu_of hr) (pv 4) pe_str (pe_op op_cat (pe_dget (hu_of hr) (pv 4) pe_str (fun _ _ => rfl)) (C8.pe_c c_law_rules_for hr (by decide) (by rfl) (pa_cons (pv 0) (pa_cons (pv 4) (pa_cons (pv 10) (pa_cons (pv 5) (pa_cons (pv 2) pa_nil))))))) (by rfl))))))))
        (C8.pss_cut (ps_dput (hu_of hr) (pv 4) pe_str (pe_callTy (call_dictP rfl) (by rfl) T.dict (by decide +kernel) (pa_cons (pe_lc (own := [("_law_row", 10)]) (by exact rfl) sc__law_drawn.nd (pi_list (pe_dget (hu_of hr) (pv 4) pe_str (fun _ _ => rfl))) (blkOk_by (own := [("_law_row", 10)]) (N := N__law_drawn) (sc := defScope s__law_drawn) (by decide +kernel)) (fun _ _ _ _ _ => (pg_name (i := 10) sc__law_drawn.nd rfl (Or.inl rfl))) (fun _ _ _ _ _ => pts_nil) (fun _ _ _ _ _ => (pe_tup (pa_cons (pe_ix (r := rIxT K) ix_tup (pv 10) pe_int (fun _ _ => rfl)) (pa_cons (pe_slice (r := rSlAny K) sl_any (pv 10) (po_some pe_int) po_none) pa_nil))))) pa_nil)) (by rfl))
        (pss_cons (ps_dput (hu_of hr) (pv 4) pe_str (pe_callTy (call_dictN (hu65 hr) rfl) (by rfl) T.dict (by decide +kernel) (pa_cons (pe_lc (own := [("_law_row", 10)]) (by exact rfl) sc__law_drawn.nd (pi_list (pe_dget (hu_of hr) (pv 4) pe_str (fun _ _ => rfl))) (blkOk_by (own := [("_law_row", 10)]) (N := N__law_drawn) (sc := defScope s__law_drawn) (by decide +kernel)) (fun _ _ _ _ _ => (pg_name (i := 10) sc__law_drawn.nd rfl (Or.inl rfl))) (fun _ _ _ _ _ => pts_nil) (fun _ _ _ _ _ => (pe_tup (pa_cons (pe_slice (r := rSlAny K) sl_any (pv 10) po_none (po_some pe_int)) (pa_cons (pe_slice (r := rSlAny K) sl_any (pv 10) (po_some pe_int) po_none) pa_nil))))) pa_nil)) (by rfl))
        (pss_one (ps_ret (pv 4))))))))), ?_⟩
    -- the sorts
    refine ⟨fun σ X => ∃ (ls : Addr) (sv b1 : List V) (rs : List SRow), σ = [some (.ref a), some (.int (roof : Nat)), some wv, some (.ref ls), none, none, none, none, none, none, none, none] ∧ But a H X ∧ H ls = none ∧ X ls = some (.lst sv) ∧ DpAll K X sv (rs.map SRow.d) ∧ SortsOk rs ∧ 1 ≤ rs.length ∧ rs.length ≤ 4 ∧ X a = some (.lst b1) ∧ BoxL (m + 301) b1, ?_, ?_⟩
    · refine ⟨_, rfl, _, rfl, a, 4, _, b, rfl, ha, hB, by omega, by decide, by decide, fun r0 b1 h0 h0' hB1 => ?_⟩
      obtain ⟨n0, rfl⟩ := Int.eq_ofNat_of_zero_le h0
      have bt0 : But a H (upd H a (.lst b1)) := But.upd (But.refl a H)
      refine ⟨_, _, rfl, rfl, a, 1 + n0, m + 1, b1, rfl, by omega, by omega, upd_same, hB1, by omega, fun X ls sv rs b2 bt nls hls hsv hrl hrs hb2 hB2 => ?_⟩
      exact ⟨ls, sv, b2, rs, rfl, bt0.trans bt, But.free bt0 upd_same nls, hls, hsv, hrs, by omega, by omega, hb2, hB2.mono (by omega)⟩
    rintro σ X0 ⟨ls, sv, b1, rs, rfl, bt0, nls, hls0, hsv0, hrs, rs1, rs4, hb0, hB0⟩
    have off : ∀ {x : Addr}, H x = none → x ≠ a := fun {x} h z => by
      rw [z, ha] at h
      cases h
    have ndr : (rs.map fun r => r.nm).Nodup := hrs.nd
    have ndk : ((rs.map sT).map fun t => kS t.k).Nodup := by
      rw [show ((rs.map sT).map fun t => kS t.k) = (rs.map fun r => r.nm).map kS by rw [List.map_map, List.map_map]; rfl]
      exact List.pairwise_map.mpr (ndr.imp fun h z => h (kS_inj z))
    -- the grammar
    refine ⟨fun σ X => ∃ (gd lm lr of : Addr) (kvs : List (Key × V)), σ = [some (.ref a), some (.int (roof : Nat)), some wv, some (.ref ls), some (.ref gd), none, none, none, none, none, none, none] ∧ Gs K H X a gd ls lm lr of rs [] [] roof kvs ∧ kvs.length ≤ 5 ∧ X a = some (.lst b1), ?_, ?_⟩
    · refine fun gd ngd => ?_
      have g0 := same_upd (o := .dK []) ngd
      refine ⟨_, rfl, _, rfl, by show 0 ≤ sizeLine; decide, fun lm nlm => ⟨by show 0 ≤ sizeLine; decide, fun lr nlr => ?_⟩⟩
      have g1 := same_upd (o := .lst []) nlm
      have g2 := same_upd (o := .lst []) nlr
      have g02 := (g0.trans g1).trans g2
      refine ⟨_, rfl, ls, rfl, ⟨_, SqL.of (g02 _ _ hls0)⟩, fun D nD => ?_⟩
      refine lc_of (ts := rs.map sT) (g02 _ _ hls0) (by rw [← sT_d]; exact dpAll_same g02 hsv0) (fun t ht => ?_) (by rw [List.length_map]; omega) nD fun U ps sU hD hp => ?_
      · obtain ⟨r, _, rfl⟩ := List.mem_map.mp ht
        exact up_imm r
      obtain ⟨kvs, k1, k2, k3⟩ := hp.kvs
      refine ⟨D, ps, kvs, rfl, SqL.of hD, k1, fun of nof => ?_⟩
      have g3 := same_upd (o := .dK (mergeK [] kvs)) nof
      have hgd : (upd U of (.dK (mergeK [] kvs))) gd = some (.dK []) := (g1.trans (g2.trans (sU.trans g3))) _ _ upd_same
      refine ⟨hgd, [(Sum.inr "cap", .int (roof : Nat)), (Sum.inr "sorts", .ref ls), (Sum.inr "makings", .ref lm), (Sum.inr "rules", .ref lr), (Sum.inr "of", .ref of)], rfl, by show 5 ≤ 15; decide, ?_⟩
      have sA : Same X0 (upd U of (.dK (mergeK [] kvs))) := g02.trans (sU.trans g3)
      have hlm : (upd U of (.dK (mergeK [] kvs))) lm = some (.lst []) := (g2.trans (sU.trans g3)) _ _ upd_same
      have hlr : (upd U of (.dK (mergeK [] kvs))) lr = some (.lst []) := (sU.trans g3) _ _ upd_same
      have ngH : H gd = none := But.free bt0 hb0 ngd
      have bA := bt0.trans (But.of (a := a) sA)
      have n2 : lm ≠ a := fun z => by
        have := sA _ _ hb0
        rw [← z, hlm] at this
        rw [z, (g0 _ _ hb0)] at nlm
        cases nlm
      have n3 : lr ≠ a := fun z => by
        rw [z, ((g0.trans g1) _ _ hb0)] at nlr
        cases nlr
      have n4 : of ≠ gd := fun z => by
        rw [z, (g1.trans (g2.trans sU)) _ _ upd_same] at nof
        cases nof
      have kk : KeepT (upd U of (.dK (mergeK [] kvs))) (upd (upd U of (.dK (mergeK [] kvs))) gd (.dK (mergeK [] [(Sum.inr "cap", .int (roof : Nat)), (Sum.inr "sorts", .ref ls), (Sum.inr "makings", .ref lm), (Sum.inr "rules", .ref lr), (Sum.inr "of", .ref of)]))) := KeepT.at_ hgd dK_no
      have nl : ∀ {d : Addr} {xs : List V}, (upd U of (.dK (mergeK [] kvs))) d = some (.lst xs) → d ≠ gd := fun {d xs} h' z => by
        rw [z, hgd] at h'
        cases h'
      refine ⟨gd, lm, lr, of, _, rfl, ⟨fun c o nc hc => ?_, upd_same, ngH, rfl, rfl, rfl, rfl, rfl, ⟨sv, ?_, dpAll_imm kk (dpAll_same sA hsv0) (immAll_map SRow.imm rs)⟩, ⟨[], ?_, .nil⟩, ⟨[], ?_, .nil⟩, ⟨mergeK [] kvs, ?_, fun r hr => ?_⟩, off nls, n2, n3, n4⟩, length_mergeK _ [], ?_⟩
      · rw [upd_ne (ne_of_none hc ngH)]
        exact bA c o nc hc
      · rw [upd_ne (nl (sA _ _ hls0))]
        exact sA _ _ hls0
      · rw [upd_ne (nl hlm)]
        exact hlm
      · rw [upd_ne (nl hlr)]
        exact hlr
      · rw [upd_ne n4]
        exact upd_same
      · obtain ⟨v, h1, h2⟩ := k3 (sT r) (List.mem_map_of_mem hr)
        exact ⟨v, merge_in kvs [] (by rw [k2]; exact ndk) _ h1, dp_imm kk (dp_same g3 h2) (up_imm r)⟩
      · rw [upd_ne (nl (sA _ _ hb0)).symm.symm]
        exact sA _ _ hb0
    rintro σ X1 ⟨gd, lm, lr, of, kvs, rfl, gs1, kl1, hb1⟩
    obtain ⟨sv1, hls1, hsv1⟩ := gs1.hls
    -- the phases
    refine ⟨fun σ X => ∃ (ph : Addr) (phs : List Nat → List (List Nat)) (b2 : List V), σ = [some (.ref a), some (.int (roof : Nat)), some wv, some (.ref ls), some (.ref gd), some (.ref ph), none, none, none, none, none, none] ∧ Gs K H X a gd ls lm lr of rs [] [] roof kvs ∧ Ph X a ph rs phs ∧ ph ≠ gd ∧ X a = some (.lst b2) ∧ BoxL (m + 320) b2, ?_, ?_⟩
    · refine ⟨_, rfl, ls, rfl, ⟨_, SqL.of hls1⟩, fun D nD => ?_⟩
      refine lc_list (K := K) (a := ls) (xs := sv1) (fun j U => But a X1 U ∧ ∃ (ps : List Addr) (xs : List (SRow × Addr × List (List Nat))) (b' : List V), U D = some (.lst (ps.map V.ref)) ∧ U a = some (.lst b') ∧ BoxL (m + 301 + 4 * j) b' ∧ Paired (fun p x => SqT K U p [.str (SX.S x.1.nm), .ref x.2.1] ∧ x.2.1 ≠ a ∧ x.2.1 ≠ D ∧ U x.2.1 = some (.lst (nmV x.2.2)) ∧ x.2.2.Perm (x.1.dn ++ x.1.up)) ps xs ∧ xs.map (·.1) = rs.take j) ⟨But.of (same_upd nD), [], [], b1, upd_same, ?_, hB0, .nil, rfl⟩ (fun j U _ h => SqL.of (h.1 _ _ gs1.n1 hls1)) ?_ ?_
      · exact same_upd nD _ _ hb1
      · rintro j x U hx ⟨bU, ps, xs, b', hD, hb', hB', hp, hxs⟩
        obtain ⟨dd, hdd, hxd⟩ := dpAll_at hsv1 hx
        rw [List.getElem?_map] at hdd
        obtain ⟨r, hr, rfl⟩ : ∃ r, rs[j]? = some r ∧ dd = r.d := by
          cases h : rs[j]? with
          | none => rw [h] at hdd; cases hdd
          | some e => rw [h] at hdd; exact ⟨e, rfl, (Option.some.inj hdd).symm⟩
        have hj : j < rs.length := (List.getElem?_eq_some_iff.mp hr).1
        have rok := hrs.ok r (List.mem_of_getElem? hr)
        have rd2 := rok.d2
        have ru2 := rok.u2
        have kU := KeepT.but hb1 bU
        have tk : rs.take (j + 1) = rs.take j ++ [r] := by rw [List.take_add_one, hr]; rfl
        have lp := paired_len hp
        have lx : xs.length = j := by
          have := congrArg List.length hxs
          rw [List.length_map, List.length_take] at this
          omega
        obtain ⟨q, v1, v2, rfl, hq, h1, h2⟩ := t3_at (t := sT r) (dp_imm kU hxd r.imm)
        obtain ⟨td, rfl, htd⟩ := names_dp h1
        obtain ⟨tu, rfl, htu⟩ := names_dp h2
        refine ⟨rfl, yesT ?_⟩
        refine ⟨_, rfl, q, _, 0, .str (SX.S r.nm), rfl, rfl, hq, atI_nat (j := 0) rfl, _, rfl, _, rfl, q, _, 1, .ref td, rfl, rfl, hq, atI_nat (j := 1) rfl, _, rfl, q, _, 2, .ref tu, rfl, rfl, hq, atI_nat (j := 2) rfl, td, tu, nmV r.dn, nmV r.up, rfl, rfl, htd, htu, ?_, fun U1 tc s1 htc => ?_⟩
        · rw [nmV_len, nmV_len]
          exact Nat.le_trans (show _ ≤ 4 by omega) (by decide)
        have lc : (nmV r.dn ++ nmV r.up).length ≤ 4 := by
          rw [List.length_append, nmV_len, nmV_len]
          omega
        refine ⟨a, tc, _, b', _, rfl, s1 _ _ hb', hB', by omega, htc, by omega, fun U2 l ys b2 bt2 nl hl hpm hb2 hB2 => ?_⟩
        obtain ⟨ws, rfl, hws⟩ := perm_map hpm (r.dn ++ r.up) (by unfold nmV; rw [List.map_append])
        refine ⟨by show 2 ≤ sizeLine; decide, fun p3 n3 => ?_⟩
        have s3 := same_upd (o := .tup [.str (SX.S r.nm), .ref l]) n3
        have nDa : D ≠ a := fun z => by
          rw [z, hb1] at nD
          cases nD
        have nlU : U l = none := s1.free nl
        have nla : l ≠ a := fun z => by
          rw [z, hb'] at nlU
          cases nlU
        have nlD : l ≠ D := fun z => by
          rw [z, hD] at nlU
          cases nlU
        have b13 : But a U (upd U2 p3 (.tup [.str (SX.S r.nm), .ref l])) := ((But.of s1).trans bt2).trans (But.of s3)
        have hD3 := b13 _ _ nDa hD
        have hl3 := s3 _ _ hl
        have hb3 := s3 _ _ hb2
        have ht3 : SqT K (upd U2 p3 (.tup [.str (SX.S r.nm), .ref l])) p3 [.str (SX.S r.nm), .ref l] := SqT.of upd_same
        have k3 := KeepT.but hb' b13
        obtain ⟨U3, eU3⟩ : ∃ U3, U3 = upd U2 p3 (.tup [.str (SX.S r.nm), .ref l]) := ⟨_, rfl⟩
        rw [← eU3] at b13 hD3 hl3 hb3 ht3 k3 ⊢
        have kk : KeepT U3 (upd U3 D (.lst (ps.map V.ref ++ [.ref p3]))) := KeepT.at_ hD3 lst_no
        refine ⟨_, hD3, small1000 (by rw [List.length_map]; omega), fun c o nc hc => ?_, ps ++ [p3], xs ++ [(r, l, ws)], b2, ?_, ?_, hB2.mono (by omega), paired_snoc (paired_mono (fun p x h => ?_) hp) ⟨kk.seqT ht3, nla, nlD, ?_, hws⟩, ?_⟩
        · rw [upd_ne (ne_of_none hc nD)]
          exact (bU.trans b13) c o nc hc
        · rw [List.map_append]
          exact upd_same
        · rw [upd_ne nDa.symm]
          exact hb3
        · obtain ⟨q1, q2, q3, q4, q5⟩ := h
          exact ⟨(k3.trans kk).seqT q1, q2, q3, by rw [upd_ne q3]; exact b13 _ _ q2 q4, q5⟩
        · rw [upd_ne nlD]
          exact hl3
        · rw [List.map_append, hxs, tk]
          rfl
      · rintro U ⟨bU, ps, xs, b', hD, hb', hB', hp, hxs⟩
        have lsv := dpAll_len hsv1
        rw [List.length_map] at lsv
        rw [lsv, List.take_length] at hxs
        have ekn : (xs.map fun x => ((kS x.1.nm, V.ref x.2.1) : Key × V)).map (·.1) = (rs.map fun r => r.nm).map kS := by
          rw [← hxs, List.map_map, List.map_map, List.map_map]
          rfl
        have nxn : (xs.map fun x => x.1.nm).Nodup := by
          rw [show (xs.map fun x => x.1.nm) = (xs.map (·.1)).map (fun r => r.nm) by rw [List.map_map]; rfl, hxs]
          exact ndr
        refine ⟨D, ps, xs.map fun x => (kS x.1.nm, V.ref x.2.1), rfl, SqL.of hD, paired_map (paired_mono (fun p x h => h.1) hp), fun ph nph => ?_⟩
        have g3 := same_upd (o := .dK (mergeK [] (xs.map fun x => (kS x.1.nm, V.ref x.2.1)))) nph
        have bA := bU.trans (But.of (a := a) g3)
        obtain ⟨phs, hphs⟩ : ∃ phs : List Nat → List (List Nat), ∀ x ∈ xs, phs x.1.nm = x.2.2 := ⟨fun k => ((xs.find? fun y => decide (y.1.nm = k)).map fun x => x.2.2).getD [], fun x hx => by
          show ((xs.find? fun y => decide (y.1.nm = x.1.nm)).map fun x => x.2.2).getD [] = _
          rw [find_row nxn x hx]
          rfl⟩
        refine ⟨ph, phs, b', rfl, gs1.go hb1 bA, ⟨_, upd_same, fun r hr => ?_⟩, ?_, g3 _ _ hb', hB'.mono (by omega)⟩
        · rw [← hxs] at hr
          obtain ⟨x, hx, rfl⟩ := List.mem_map.mp hr
          obtain ⟨p, q1, q2, q3, q4, q5⟩ := paired_mem hp x hx
          refine ⟨x.2.1, ?_, q2, ?_, ?_⟩
          · exact merge_in _ [] (by rw [ekn]; exact List.pairwise_map.mpr (ndr.imp fun h z => h (kS_inj z))) (kS x.1.nm, V.ref x.2.1) (List.mem_map_of_mem hx)
          · rw [hphs x hx]
            exact g3 _ _ q4
          · rw [hphs x hx]
            exact q5
        · exact fun z => by
            have := (gs1.go hb1 bU).hgd
            rw [← z, nph] at this
            cases this
    rintro σ X2 ⟨ph, phs, b2, rfl, gs2, ph2, npg, hb2, hB2⟩
    -- the makings
    refine ⟨fun σ Y => ∃ (y6 y7 y8 y9 y10 y11 : Option V) (lm lr : Addr) (ms : List MRow) (ru : List RRow) (kvs : List (Key × V)) (b' : List V), σ = [some (.ref a), some (.int (roof : Nat)), some wv, some (.ref ls), some (.ref gd), some (.ref ph), y6, y7, y8, y9, y10, y11] ∧ Gs K H Y a gd ls lm lr of rs ms ru roof kvs ∧ kvs.length ≤ 30 ∧ (ms.map MRow.nm).Nodup ∧ (∀ m ∈ ms, MOk rs m) ∧ ms.length ≤ 8 ∧ rs.length ≤ ms.length ∧ RuAll rs roof ms ru ∧ ru.length ≤ 240 ∧ Y a = some (.lst b') ∧ BoxL (m + 7000) b', ?_, ?_⟩
    · obtain ⟨sv2, hls2, hsv2⟩ := gs2.hls
      have lsv := dpAll_len hsv2
      rw [List.length_map] at lsv
      refine ⟨_, rfl, _, rfl, ls, sv2, rfl, .inl (SqL.of hls2), _, rfl, _, rfl, ls, sv2, rfl, .inl (SqL.of hls2), _, _, rfl, rfl, a, _, _, b2, rfl, hb2, hB2, by omega, by omega, by omega, fun r3 b3 h3 h3' hB3 => ?_⟩
      obtain ⟨n3, rfl⟩ := Int.eq_ofNat_of_zero_le h3
      have bt3 : But a X2 (upd X2 a (.lst b3)) := But.upd (But.refl a X2)
      have hb3 : (upd X2 a (.lst b3)) a = some (.lst b3) := upd_same
      obtain ⟨X3, e3⟩ : ∃ X3, X3 = upd X2 a (.lst b3) := ⟨_, rfl⟩
      rw [← e3] at bt3 hb3 ⊢
      refine ⟨_, _, rfl, rfl, a, sv2.length + n3, _, b3, rfl, by omega, hb3, hB3, by omega, fun X4 ln ws b4 bt4 nln hln hwl hwn hws hb4 hB4 => ?_⟩
      have bX4 := bt3.trans bt4
      have gs4 := gs2.go hb2 bX4
      have ph4 := ph2.go hb2 bX4
      have nln2 : X2 ln = none := But.free bt3 hb3 nln
      have nla : ln ≠ a := fun z => by
        rw [z, hb2] at nln2
        cases nln2
      have nlg : ln ≠ gd := fun z => by
        rw [z, gs2.hgd] at nln2
        cases nln2
      have lw8 : ws.length ≤ 8 := by omega
      refine ⟨ln, nmV ws, rfl, SqL.of hln, ?_⟩
      refine for_it walk_enum (fun j σ Y => ∃ (y6 y7 y8 y9 y10 y11 : Option V) (lm lr : Addr) (ms : List MRow) (ru : List RRow) (kvs : List (Key × V)) (b' : List V), σ = [some (.ref a), some (.int (roof : Nat)), some wv, some (.ref ls), some (.ref gd), some (.ref ph), y6, y7, y8, y9, y10, y11] ∧ Gs K H Y a gd ls lm lr of rs ms ru roof kvs ∧ kvs.length ≤ 5 + 2 * j ∧ Ph Y a ph rs phs ∧ ms.map MRow.nm = ws.take j ∧ (∀ m ∈ ms, MOk rs m) ∧ RuAll rs roof ms ru ∧ ru.length ≤ 30 * j ∧ Y a = some (.lst b') ∧ BoxL (m + 401 + 705 * j) b' ∧ Y ln = some (.lst (nmV ws)))
        ⟨none, none, none, none, none, none, lm, lr, [], [], kvs, b4, rfl, gs4, by omega, ph4, rfl, (fun m h => nomatch h), .nil, Nat.le_refl _, hb4, hB4.mono (by omega), hln⟩ (fun i σ Y _ ⟨_, _, _, _, _, _, _, _, _, _, _, _, _, _, _, _, _, _, _, _, _, _, h⟩ => SqL.of h) ?_ ?_
      · rintro j v σ Y0 Y hj ⟨y6, y7, y8, y9, y10, y11, lm, lr, ms, ru, kvs, b5, rfl, gs0, kl0, ph0, hms, hmo, hru, hrul, hb0, hB5, hlnY0⟩ ⟨TT, xx, yy, rfl, nT, rfl, ex, ey⟩
        cases ex
        rw [nmV_len] at hj
        have sT := same_upd (o := .tup [.int ((j : Nat) : Int), yy]) nT
        obtain ⟨nm, hnm, rfl⟩ : ∃ nm, ws[j]? = some nm ∧ yy = V.str (SX.S nm) := by
          replace ey : (nmV ws)[j]? = some yy := ey
          unfold nmV at ey
          rw [List.getElem?_map] at ey
          cases e : ws[j]? with
          | none => rw [e] at ey; cases ey
          | some u => rw [e] at ey; exact ⟨u, rfl, (Option.some.inj ey).symm⟩
        have gsY := gs0.go hb0 (But.of sT)
        have phY := ph0.go hb0 (But.of sT)
        have hbY := sT _ _ hb0
        have hlnY := sT _ _ hlnY0
        have hTT : SqT K (upd Y0 TT (.tup [.int ((j : Nat) : Int), .str (SX.S nm)])) TT [.int ((j : Nat) : Int), .str (SX.S nm)] := SqT.of upd_same
        obtain ⟨Y, eY⟩ : ∃ Y, Y = upd Y0 TT (.tup [.int ((j : Nat) : Int), .str (SX.S nm)]) := ⟨_, rfl⟩
        rw [← eY] at gsY phY hbY hlnY hTT ⊢
        clear sT ph0 gs0 hlnY0 hb0
        refine ⟨TT, _, rfl, hTT, rfl, _, _, rfl, _, _, rfl, rfl, ?_⟩
        obtain ⟨sv, hls, hsv⟩ := gsY.hls
        have lsv := dpAll_len hsv
        rw [List.length_map] at lsv
        -- one of the sorts, by its name
        have kindOf : ∀ {Z : Hp} {i : Nat} {v : V}, But a Y Z → sv[i]? = some v → ∃ r q v1 v2, r ∈ rs ∧ v = .ref q ∧ SqT K Z q [.str (SX.S r.nm), v1, v2] := fun {Z i v} bt hv => by
          obtain ⟨dd, hdd, hxd⟩ := dpAll_at hsv hv
          rw [List.getElem?_map] at hdd
          cases h : rs[i]? with
          | none => rw [h] at hdd; cases hdd
          | some r =>
            rw [h] at hdd
            cases hdd
            obtain ⟨q, v1, v2, e, hq, _, _⟩ := t3_at (t := sT r) (dp_imm (KeepT.but hbY bt) hxd r.imm)
            exact ⟨r, q, v1, v2, List.mem_of_getElem? h, e, hq⟩
        refine ⟨_, rfl, _, rfl, a, ls, _, b5, sv, rfl, hbY, hB5, by omega, SqL.of hls, gsY.n1, by omega, by omega, fun i1 v1 b6 hv1 hB6 => ?_⟩
        have bt6 : But a Y (upd Y a (.lst b6)) := But.upd (But.refl a Y)
        have hb6 : (upd Y a (.lst b6)) a = some (.lst b6) := upd_same
        obtain ⟨Y6, e6⟩ : ∃ Y6, Y6 = upd Y a (.lst b6) := ⟨_, rfl⟩
        rw [← e6] at bt6 hb6 ⊢
        obtain ⟨r, q, u1, u2, hr, rfl, hq⟩ := kindOf bt6 hv1
        refine ⟨q, _, 0, .str (SX.S r.nm), rfl, rfl, hq, atI_nat (j := 0) rfl, by show 4 ≤ sizeLine; decide, fun l0 n0 => ?_⟩
        have s7 := same_upd (o := .lst [.int 0, .int 1, .int 2, .int 2]) n0
        have hl0 : (upd Y6 l0 (.lst [.int 0, .int 1, .int 2, .int 2])) l0 = some (.lst [.int 0, .int 1, .int 2, .int 2]) := upd_same
        have n0a : l0 ≠ a := fun z => by
          rw [z, hb6] at n0
          cases n0
        refine ⟨_, rfl, a, 4, _, b6, rfl, s7 _ _ hb6, hB6, by omega, by decide, by decide, fun t0 b7 h0 h0' hB7 => ?_⟩
        obtain ⟨tn, rfl⟩ := Int.eq_ofNat_of_zero_le h0
        have bt7 : But a Y (upd (upd Y6 l0 (.lst [.int 0, .int 1, .int 2, .int 2])) a (.lst b7)) := bt6.trans ((But.of s7).trans (But.upd (But.refl a _)))
        have hb7 : (upd (upd Y6 l0 (.lst [.int 0, .int 1, .int 2, .int 2])) a (.lst b7)) a = some (.lst b7) := upd_same
        have hl7 : (upd (upd Y6 l0 (.lst [.int 0, .int 1, .int 2, .int 2])) a (.lst b7)) l0 = some (.lst [.int 0, .int 1, .int 2, .int 2]) := by
          rw [upd_ne n0a]
          exact hl0
        obtain ⟨Y7, e7⟩ : ∃ Y7, Y7 = upd (upd Y6 l0 (.lst [.int 0, .int 1, .int 2, .int 2])) a (.lst b7) := ⟨_, rfl⟩
        rw [← e7] at bt7 hb7 hl7 ⊢
        obtain ⟨sz, hat, hsz⟩ : ∃ sz : Nat, atI [V.int 0, V.int 1, V.int 2, V.int 2] ((tn : Nat) : Int) = some (.int (sz : Nat)) ∧ sz ≤ 2 := by
          have : tn < 4 := by omega
          rcases tn with _ | _ | _ | _ | tn
          · exact ⟨0, atI_nat (j := 0) rfl, by decide⟩
          · exact ⟨1, atI_nat (j := 1) rfl, by decide⟩
          · exact ⟨2, atI_nat (j := 2) rfl, by decide⟩
          · exact ⟨2, atI_nat (j := 3) rfl, by decide⟩
          · omega
        refine ⟨l0, _, _, _, rfl, rfl, SqL.of hl7, hat, _, _, rfl, ?_⟩
        -- or the sort that needs one
        refine ⟨fun σ Z => ∃ (k : List Nat) (sz : Nat) (b8 : List V), σ = [some (.ref a), some (.int (roof : Nat)), some wv, some (.ref ls), some (.ref gd), some (.ref ph), some (.int ((j : Nat) : Int)), some (.str (SX.S nm)), some (.str (SX.S k)), some (.int (sz : Nat)), y10, y11] ∧ (∃ r ∈ rs, r.nm = k) ∧ sz ≤ 2 ∧ But a Y Z ∧ Z a = some (.lst b8) ∧ BoxL (m + 401 + 705 * j + 3) b8, ?_, ?_⟩
        · refine ⟨_, rfl, _, rfl, ls, sv, rfl, .inl (SqL.of (bt7 _ _ gsY.n1 hls)), _, _, rfl, rfl, _, rfl, ?_⟩
          by_cases hjl : ((j : Nat) : Int) < ((sv.length : Nat) : Int)
          · refine ifT (decide_eq_true hjl) ?_
            refine ⟨_, rfl, a, 24, _, b7, rfl, hb7, hB7, by omega, by decide, by decide, fun t1 b8 h1 h1' hB8 => ?_⟩
            have bt8 : But a Y (upd Y7 a (.lst b8)) := bt7.trans (But.upd (But.refl a _))
            refine ⟨_, _, rfl, rfl, _, rfl, ?_⟩
            by_cases ht1 : 0 < t1
            · refine ifT (decide_eq_true ht1) ?_
              have hjn : j < sv.length := by omega
              have hv2 : sv[j]? = some sv[j] := List.getElem?_eq_getElem hjn
              obtain ⟨r', q', w1', w2', hr', ev, hq'⟩ := kindOf bt8 hv2
              refine ⟨_, rfl, _, rfl, ls, sv, _, sv[j], rfl, rfl, SqL.of (bt8 _ _ gsY.n1 hls), atI_nat (j := j) hv2, ?_⟩
              rw [ev]
              exact ⟨q', _, 0, .str (SX.S r'.nm), rfl, rfl, hq', atI_nat (j := 0) rfl, _, _, rfl, r'.nm, 0, b8, rfl, ⟨r', hr', rfl⟩, by decide, bt8, upd_same, hB8⟩
            · exact ifF (decide_eq_false ht1) ⟨r.nm, sz, b8, rfl, ⟨r, hr, rfl⟩, hsz, bt8, upd_same, hB8⟩
          · exact ifF (decide_eq_false hjl) ⟨r.nm, sz, b7, rfl, ⟨r, hr, rfl⟩, hsz, bt7, hb7, hB7.mono (by omega)⟩
        clear hat hsz hl7 hb7 bt7 e7 Y7 hB7 hq bt6 hb6 e6 hB6
        rintro σ Y8 ⟨k, sz, b8, rfl, hk, hsz, bt8, hb8, hB8⟩
        -- the row
        refine ⟨fun σ Z => ∃ (mr : MRow) (rowv : V) (b9 : List V) (y11 : Option V), σ = [some (.ref a), some (.int (roof : Nat)), some wv, some (.ref ls), some (.ref gd), some (.ref ph), some (.int ((j : Nat) : Int)), some (.str (SX.S nm)), some (.str (SX.S k)), some (.int (sz : Nat)), some rowv, y11] ∧ mr.nm = nm ∧ MOk rs mr ∧ Dp K Z rowv mr.d ∧ But a Y Z ∧ Z a = some (.lst b9) ∧ BoxL (m + 401 + 705 * j + 5) b9, ?_, ?_⟩
        · refine ⟨_, rfl, _, rfl, _, rfl, ((sz : Nat) : Int), rfl, by omega, by omega, fun D nD => ?_⟩
          have nDa : D ≠ a := fun z => by
            rw [z, hb8] at nD
            cases nD
          refine lc_range (lo := 0) (n := Int.toNat ((sz : Nat) : Int)) (fun i U => But a Y8 U ∧ ∃ (pt : List (List Nat)) (b9 : List V), U D = some (.lst (nmV pt)) ∧ pt.length = i ∧ (∀ k ∈ pt, ∃ r ∈ rs, r.nm = k) ∧ U a = some (.lst b9) ∧ BoxL (m + 401 + 705 * j + 3 + i) b9) ⟨But.of (same_upd nD), [], b8, upd_same, rfl, (fun k h => nomatch h), same_upd nD _ _ hb8, hB8⟩ ?_ ?_
          · rintro i U hi ⟨bU, pt, b9, hD, hpl, hpt, hb9, hB9⟩
            have hi2 : i < 2 := by
              rw [Int.toNat_natCast] at hi
              omega
            have btU := bt8.trans bU
            refine ⟨rfl, yesT ?_⟩
            refine ⟨_, rfl, _, rfl, a, ls, _, b9, sv, rfl, hb9, hB9, by omega, SqL.of (btU _ _ gsY.n1 hls), gsY.n1, by omega, by omega, fun i2 v2 b10 hv2 hB10 => ?_⟩
            have btV : But a Y (upd U a (.lst b10)) := btU.trans (But.upd (But.refl a U))
            obtain ⟨r2, q2, w1', w2', hr2, rfl, hq2⟩ := kindOf btV hv2
            refine ⟨q2, _, 0, .str (SX.S r2.nm), rfl, rfl, hq2, atI_nat (j := 0) rfl, nmV pt, by rw [upd_ne nDa]; exact hD, small1000 (by rw [nmV_len]; omega), fun c o nc hc => ?_, pt ++ [r2.nm], b10, ?_, by rw [List.length_append]; show pt.length + 1 = i + 1; omega, fun k hk => ?_, ?_, hB10.mono (by omega)⟩
            · rw [upd_ne (ne_of_none hc nD), upd_ne nc]
              exact bU c o nc hc
            · unfold nmV
              rw [List.map_append]
              exact upd_same
            · rcases List.mem_append.mp hk with h | h
              · exact hpt k h
              · rw [List.mem_singleton.mp h]
                exact ⟨r2, hr2, rfl⟩
            · rw [upd_ne nDa.symm]
              exact upd_same
          · rintro U ⟨bU, pt, b9, hD, hpl, hpt, hb9, hB9⟩
            rw [Int.toNat_natCast] at hpl hB9
            refine ⟨D, nmV pt, rfl, .inl ⟨SqL.of hD, fun l1 n1 => ?_⟩⟩
            have s1 := same_upd (o := .tup (nmV pt)) n1
            refine ⟨by show 3 ≤ sizeLine; decide, fun l2 n2 => ?_⟩
            have s2 := same_upd (o := .tup [.str (SX.S nm), .str (SX.S k), .ref l1]) n2
            refine ⟨⟨nm, k, pt⟩, .ref l2, b9, _, rfl, rfl, ⟨hws nm (List.mem_of_getElem? hnm), fun k' hk' => ?_, by show pt.length ≤ 2; omega⟩, ?_, (bt8.trans bU).trans (But.of (s1.trans s2)), (s1.trans s2) _ _ hb9, hB9.mono (by omega)⟩
            · rcases List.mem_cons.mp hk' with rfl | h
              · exact hk
              · exact hpt k' h
            · exact .tup (SqT.of upd_same) (.cons (.str _) (.cons (.str _) (.cons (dp_same s2 (.tup (SqT.of upd_same) (nm_dp pt))) .nil)))
        clear hb8 hB8 bt8
        rintro σ Y9 ⟨mr, rowv, b9, z11, rfl, hmn, hmok, hrow, bt9, hb9, hB9⟩
        have gs9 := gsY.go hbY bt9
        have ph9 := phY.go hbY bt9
        obtain ⟨mv, hlm, hmv⟩ := gs9.hlm
        have lmv := dpAll_len hmv
        rw [List.length_map] at lmv
        have lms : ms.length = j := by
          have := congrArg List.length hms
          rw [List.length_map, List.length_take] at this
          omega
        -- one making more
        refine ⟨fun σ Z => ∃ (lm' : Addr) (kvs' : List (Key × V)) (b9 : List V), σ = [some (.ref a), some (.int (roof : Nat)), some wv, some (.ref ls), some (.ref gd), some (.ref ph), some (.int ((j : Nat) : Int)), some (.str (SX.S nm)), some (.str (SX.S k)), some (.int (sz : Nat)), some rowv, z11] ∧ Gs K H Z a gd ls lm' lr of rs (ms ++ [mr]) ru roof kvs' ∧ kvs'.length ≤ 5 + 2 * j + 1 ∧ Ph Z a ph rs phs ∧ Dp K Z rowv mr.d ∧ Z ln = some (.lst (nmV ws)) ∧ Z a = some (.lst b9) ∧ BoxL (m + 401 + 705 * j + 5) b9, ?_, ?_⟩
        · refine ⟨_, rfl, gd, .ref lm, rfl, by have h := DGet.k (k := Sum.inr "makings") gs9.hgd; rw [gs9.mak] at h; exact h, _, rfl, by show 1 ≤ sizeLine; decide, fun l1 n1 => ?_⟩
          have s1 := same_upd (o := .lst [rowv]) n1
          refine ⟨lm, l1, mv, [rowv], rfl, rfl, s1 _ _ hlm, upd_same, Nat.le_trans (show _ ≤ 100 from by show mv.length + 1 ≤ 100; omega) (by decide), fun l2 n2 => ?_⟩
          have s2 := same_upd (o := .lst (mv ++ [rowv])) n2
          have s12 := s1.trans s2
          have gsA := gs9.go hb9 (But.of s12)
          have phA := ph9.go hb9 (But.of s12)
          have n2a : l2 ≠ a := fun z => by
            rw [z, s1 _ _ hb9] at n2
            cases n2
          have hrowA := dp_same s12 hrow
          have hl2 : (upd (upd Y9 l1 (.lst [rowv])) l2 (.lst (mv ++ [rowv]))) l2 = some (.lst (mv ++ [rowv])) := upd_same
          have hdA := dpAll_appI (dpAll_same s12 hmv) (.cons hrowA .nil)
          have hlnA := s12 _ _ (bt9 _ _ nla hlnY)
          have hbA := s12 _ _ hb9
          obtain ⟨YA, eA⟩ : ∃ YA, YA = upd (upd Y9 l1 (.lst [rowv])) l2 (.lst (mv ++ [rowv])) := ⟨_, rfl⟩
          rw [← eA] at gsA phA hrowA hl2 hdA hlnA hbA ⊢
          refine ⟨_, rfl, gd, _, rfl, DPut.k (k := Sum.inr "makings") gsA.hgd (small1000 (by omega)), l2, _, b9, rfl, gsA.set (kvs' := putK kvs (Sum.inr "makings") (.ref l2)) (ms' := ms ++ [mr]) (ru' := ru) ⟨mv ++ [rowv], hl2, by rw [List.map_append]; exact hdA⟩ n2a gsA.hlr gsA.n3 ?_ ?_ ?_ ?_ ?_, ?_, phA.set gsA.hgd npg, dp_imm (KeepT.at_ gsA.hgd dK_no) hrowA mr.imm, ?_, ?_, hB9⟩
          · rw [valV_put, if_neg (by decide +kernel)]; exact gsA.cap
          · rw [valV_put, if_neg (by decide +kernel)]; exact gsA.so
          · rw [valV_put, if_pos rfl]
          · rw [valV_put, if_neg (by decide +kernel)]; exact gsA.rl
          · rw [valV_put, if_neg (by decide +kernel)]; exact gsA.ofv
          · have := length_putK kvs (Sum.inr "makings") (.ref l2)
            omega
          · rw [upd_ne nlg]; exact hlnA
          · rw [upd_ne (fun z => by rw [z, gsA.hgd] at hbA; cases hbA)]; exact hbA
        clear hrow ph9 hlm hmv lmv gs9 hb9 hB9
        rintro σ Z ⟨lm', kvs', b9, rfl, gsZ, klZ, phZ, hrow, hlnZ, hbZ, hBZ⟩
        obtain ⟨rv, hlrZ, hrvZ⟩ := gsZ.hlr
        have lrv := dpAll_len hrvZ
        rw [List.length_map] at lrv
        obtain ⟨ofk, of1, of2⟩ := gsZ.hof
        have cxt : Cxt K Z a gd ph rowv wv rs mr roof wb wn phs := ⟨⟨kvs', of, ofk, gsZ.hgd, gsZ.cap, gsZ.ofv, of1, of2⟩, phZ, hrow, dp_imm (KeepT.but ha gsZ.bt) hwv rfl, w0, w1, hrs, hmok.so, hmok.p2, hroof⟩
        refine ⟨_, rfl, gd, .ref lr, rfl, by have h := DGet.k (k := Sum.inr "rules") gsZ.hgd; rw [gsZ.rl] at h; exact h, ?_⟩
        refine ⟨_, rfl, _, rfl, _, rfl, _, rfl, _, rfl, a, gd, ph, rowv, wv, rs, mr, roof, wb, wn, phs, _, b9, rfl, cxt, hbZ, hBZ, by omega, fun V lv vs' ru' ks b10 btV nlv hlv hru' hok hb10 hB10 => ?_⟩
        have gsV := gsZ.go hbZ btV
        have phV := phZ.go hbZ btV
        have hlrV := btV _ _ gsZ.n3 hlrZ
        have lru := hok.le
        have lvs := dpAll_len hru'
        rw [List.length_map] at lvs
        refine ⟨lr, lv, rv, vs', rfl, rfl, hlrV, hlv, Nat.le_trans (show _ ≤ 1000 by omega) (by decide), fun l3 n3 => ?_⟩
        have s3 := same_upd (o := .lst (rv ++ vs')) n3
        have gsA := gsV.go hb10 (But.of s3)
        have phA := phV.go hb10 (But.of s3)
        have n3a : l3 ≠ a := fun z => by
          rw [z, hb10] at n3
          cases n3
        have hdA := dpAll_appI (dpAll_imm ((KeepT.but hbZ btV).trans (KeepT.of s3)) hrvZ (immAll_map RRow.imm ru)) (dpAll_same s3 hru')
        have hl3 : (upd V l3 (.lst (rv ++ vs'))) l3 = some (.lst (rv ++ vs')) := upd_same
        have hlnA := s3 _ _ (btV _ _ nla hlnZ)
        have hbA := s3 _ _ hb10
        obtain ⟨YA, eA⟩ : ∃ YA, YA = upd V l3 (.lst (rv ++ vs')) := ⟨_, rfl⟩
        rw [← eA] at gsA phA hdA hl3 hlnA hbA ⊢
        refine ⟨_, rfl, gd, _, rfl, DPut.k (k := Sum.inr "rules") gsA.hgd (small1000 (by omega)), _, _, _, _, _, _, lm', l3, ms ++ [mr], ru ++ ru', _, b10, rfl, gsA.set (kvs' := putK kvs' (Sum.inr "rules") (.ref l3)) (ms' := ms ++ [mr]) (ru' := ru ++ ru') gsA.hlm gsA.n2 ⟨rv ++ vs', hl3, by rw [List.map_append]; exact hdA⟩ n3a ?_ ?_ ?_ ?_ ?_, ?_, phA.set gsA.hgd npg, ?_, fun m' hm' => ?_, .snoc hru hok, ?_, ?_, hB10.mono (by omega), ?_⟩
        · rw [valV_put, if_neg (by decide +kernel)]; exact gsA.cap
        · rw [valV_put, if_neg (by decide +kernel)]; exact gsA.so
        · rw [valV_put, if_neg (by decide +kernel)]; exact gsA.mak
        · rw [valV_put, if_pos rfl]
        · rw [valV_put, if_neg (by decide +kernel)]; exact gsA.ofv
        · have := length_putK kvs' (Sum.inr "rules") (.ref l3)
          omega
        · rw [List.map_append, hms, List.take_add_one, hnm]
          show _ ++ [mr.nm] = _ ++ [nm]
          rw [hmn]
        · rcases List.mem_append.mp hm' with h | h
          · exact hmo m' h
          · rw [List.mem_singleton.mp h]
            exact hmok
        · rw [List.length_append]
          omega
        · rw [upd_ne (fun z => by rw [z, gsA.hgd] at hbA; cases hbA)]; exact hbA
        · rw [upd_ne nlg]; exact hlnA
      · rintro σ Y ⟨y6, y7, y8, y9, y10, y11, lm, lr, ms, ru, kvs, b5, rfl, gs0, kl0, ph0, hms, hmo, hru, hrul, hb0, hB5, hlnY0⟩
        rw [nmV_len] at hms kl0 hrul hB5
        rw [List.take_length] at hms
        have lms := congrArg List.length hms
        rw [List.length_map] at lms
        exact ⟨_, _, _, _, _, _, lm, lr, ms, ru, kvs, b5, rfl, gs0, by omega, by rw [hms]; exact hwn, hmo, by omega, by omega, hru, by omega, hb0, hB5.mono (by omega)⟩
    rintro σ X5 ⟨y6, y7, y8, y9, y10, y11, lm5, lr5, ms, ru, kvs5, b5, rfl, gs5, kl5, hmn, hmo, hm8, hm1, hru, hrul, hb5, hB5⟩
    have ndm : ((ms.map mT).map fun t => kS t.k).Nodup := by
      rw [show ((ms.map mT).map fun t => kS t.k) = (ms.map MRow.nm).map kS by rw [List.map_map, List.map_map]; rfl]
      exact List.pairwise_map.mpr (hmn.imp fun h z => h (kS_inj z))
    -- by their names
    refine ⟨fun σ Y => ∃ (kvs : List (Key × V)) (by_ : Addr) (byk : List (Key × V)), σ = [some (.ref a), some (.int (roof : Nat)), some wv, some (.ref ls), some (.ref gd), some (.ref ph), y6, y7, y8, y9, y10, y11] ∧ Gs K H Y a gd ls lm5 lr5 of rs ms ru roof kvs ∧ kvs.length ≤ 31 ∧ valV kvs (Sum.inr "by") = some (.ref by_) ∧ by_ ≠ gd ∧ Y by_ = some (.dK byk) ∧ (∀ m ∈ ms, ∃ v, valV byk (kS m.nm) = some v ∧ Dp K Y v (.tuple [strD m.so, .tuple (m.pt.map strD)])) ∧ Y a = some (.lst b5), ?_, ?_⟩
    · obtain ⟨mv, hlm, hmv⟩ := gs5.hlm
      refine ⟨_, rfl, gd, .ref lm5, rfl, by have h := DGet.k (k := Sum.inr "makings") gs5.hgd; rw [gs5.mak] at h; exact h, lm5, rfl, ⟨_, SqL.of hlm⟩, fun D nD => ?_⟩
      refine lc_of (ts := ms.map mT) hlm (by rw [← mT_d]; exact hmv) (fun t ht => ?_) (by rw [List.length_map]; omega) nD fun U ps sU hD hp => ?_
      · obtain ⟨r, _, rfl⟩ := List.mem_map.mp ht
        exact m_imm r
      obtain ⟨kvs, k1, k2, k3⟩ := hp.kvs
      refine ⟨D, ps, kvs, rfl, SqL.of hD, k1, fun by_ nby => ?_⟩
      have g3 := same_upd (o := .dK (mergeK [] kvs)) nby
      have sA := sU.trans g3
      have gsA := gs5.go hb5 (But.of sA)
      have hbA := sA _ _ hb5
      have hby : (upd U by_ (.dK (mergeK [] kvs))) by_ = some (.dK (mergeK [] kvs)) := upd_same
      have nbg : by_ ≠ gd := fun z => by
        rw [z, sU _ _ gs5.hgd] at nby
        cases nby
      have hbv : ∀ m ∈ ms, ∃ v, valV (mergeK [] kvs) (kS m.nm) = some v ∧ Dp K (upd U by_ (.dK (mergeK [] kvs))) v (.tuple [strD m.so, .tuple (m.pt.map strD)]) := fun m hm => by
        obtain ⟨v, h1, h2⟩ := k3 (mT m) (List.mem_map_of_mem hm)
        exact ⟨v, merge_in kvs [] (by rw [k2]; exact ndm) _ h1, dp_same g3 h2⟩
      obtain ⟨YA, eA⟩ : ∃ YA, YA = upd U by_ (.dK (mergeK [] kvs)) := ⟨_, rfl⟩
      rw [← eA] at gsA hbA hby hbv ⊢
      refine ⟨_, rfl, gd, _, rfl, DPut.k (k := Sum.inr "by") gsA.hgd (small1000 (by omega)), _, by_, mergeK [] kvs, rfl, gsA.set (kvs' := putK kvs5 (Sum.inr "by") (.ref by_)) (ms' := ms) (ru' := ru) gsA.hlm gsA.n2 gsA.hlr gsA.n3 ?_ ?_ ?_ ?_ ?_, ?_, ?_, nbg, ?_, fun m hm => ?_, ?_⟩
      · rw [valV_put, if_neg (by decide +kernel)]; exact gsA.cap
      · rw [valV_put, if_neg (by decide +kernel)]; exact gsA.so
      · rw [valV_put, if_neg (by decide +kernel)]; exact gsA.mak
      · rw [valV_put, if_neg (by decide +kernel)]; exact gsA.rl
      · rw [valV_put, if_neg (by decide +kernel)]; exact gsA.ofv
      · have := length_putK kvs5 (Sum.inr "by") (.ref by_)
        omega
      · rw [valV_put, if_pos rfl]
      · rw [upd_ne nbg]; exact hby
      · obtain ⟨v, h1, h2⟩ := hbv m hm
        exact ⟨v, h1, dp_imm (KeepT.at_ gsA.hgd dK_no) h2 (m_imm m)⟩
      · rw [upd_ne (fun z => by rw [z, gsA.hgd] at hbA; cases hbA)]; exact hbA
    rintro σ X6 ⟨kvs6, by_, byk, rfl, gs6, kl6, hbyv, nbg, hby, hbv, hb6⟩
    -- by their targets: not followed
    obtain ⟨rv, hlr, hrv⟩ := gs6.hlr
    have lrv := dpAll_len hrv
    rw [List.length_map] at lrv
    refine ⟨_, rfl, gd, .ref lr5, rfl, by have h := DGet.k (k := Sum.inr "rules") gs6.hgd; rw [gs6.rl] at h; exact h, lr5, rfl, ⟨_, SqL.of hlr⟩, fun D nD => ?_⟩
    refine lc_list (K := K) (a := lr5) (xs := rv) (fun j U => Same X6 U ∧ ∃ (ps : List Addr) (ks : List (Addr × PyData × V)), U D = some (.lst (ps.map V.ref)) ∧ Paired (fun p k => SqT K U p [.ref k.1, k.2.2] ∧ Dp K U (.ref k.1) k.2.1 ∧ imm k.2.1 = true ∧ (keyD k.2.1).depth ≤ 8) ps ks ∧ ps.length = j) ⟨same_upd nD, [], [], upd_same, .nil, rfl⟩ (fun j U _ h => SqL.of (h.1 _ _ hlr)) ?_ ?_
    · rintro j x U hx ⟨sU, ps, ks, hD, hp, hpl⟩
      obtain ⟨dd, hdd, hxd⟩ := dpAll_at hrv hx
      rw [List.getElem?_map] at hdd
      obtain ⟨r, hr, rfl⟩ : ∃ r, ru[j]? = some r ∧ dd = r.d := by
        cases h : ru[j]? with
        | none => rw [h] at hdd; cases hdd
        | some e => rw [h] at hdd; exact ⟨e, rfl, (Option.some.inj hdd).symm⟩
      have hj : j < ru.length := (List.getElem?_eq_some_iff.mp hr).1
      obtain ⟨q0, v2, v4, rfl, hq, h2⟩ := rr_at (dp_same sU hxd)
      refine ⟨rfl, yesT ?_⟩
      refine ⟨_, rfl, 2, rfl, q0, _, rfl, hq, fun U1 t1 s1 ht1 => ?_⟩
      have ht1 : SqT K U1 t1 [.str (SX.S r.ma), v2] := ht1
      refine ⟨_, rfl, 2, rfl, q0, _, rfl, Same.seqT s1 hq, fun U2 t2 s2 ht2 => ?_⟩
      refine ⟨by show 2 ≤ sizeLine; decide, fun p3 n3 => ?_⟩
      have s3 := same_upd (o := .tup [.ref t1, .ref t2]) n3
      have sA := s1.trans (s2.trans s3)
      have hD3 := sA _ _ hD
      have dk : Dp K U1 (.ref t1) (.tuple [strD r.ma, r.tg.d]) := .tup ht1 (.cons (.str _) (.cons (dp_same s1 h2) .nil))
      have ik : imm (.tuple [strD r.ma, r.tg.d]) = true := by
        show (true && (imm r.tg.d && true)) = true
        rw [r.tg.imm]
        rfl
      have kk : KeepT (upd U2 p3 (.tup [.ref t1, .ref t2])) (upd (upd U2 p3 (.tup [.ref t1, .ref t2])) D (.lst (ps.map V.ref ++ [.ref p3]))) := KeepT.at_ hD3 lst_no
      refine ⟨_, hD3, small1000 (by rw [List.length_map]; omega), Same.at_ (sU.trans sA) nD, ps ++ [p3], ks ++ [(t1, .tuple [strD r.ma, r.tg.d], .ref t2)], ?_, paired_snoc (paired_mono (fun p k h => ?_) hp) ⟨kk.seqT (SqT.of upd_same), dp_imm ((KeepT.of (s2.trans s3)).trans kk) dk ik, ik, key_depth _ _⟩, by rw [List.length_append]; show ps.length + 1 = j + 1; omega⟩
      · rw [List.map_append]
        exact upd_same
      · obtain ⟨q1, q2, q3, q4⟩ := h
        exact ⟨((KeepT.of sA).trans kk).seqT q1, dp_imm ((KeepT.of sA).trans kk) q2 q3, q3, q4⟩
    · rintro U ⟨sU, ps, ks, hD, hp, hpl⟩
      refine ⟨D, ps, ks, rfl, SqL.of hD, hp, fun pz npz => ?_⟩
      have gsU := gs6.go hb6 (But.of sU)
      have hbU := sU _ _ hb6
      have gsF := gsU.set (kvs' := putK kvs6 (Sum.inr "has") (.ref pz)) (ms' := ms) (ru' := ru) gsU.hlm gsU.n2 gsU.hlr gsU.n3 (by rw [valV_put, if_neg (by decide +kernel)]; exact gsU.cap) (by rw [valV_put, if_neg (by decide +kernel)]; exact gsU.so) (by rw [valV_put, if_neg (by decide +kernel)]; exact gsU.mak) (by rw [valV_put, if_neg (by decide +kernel)]; exact gsU.rl) (by rw [valV_put, if_neg (by decide +kernel)]; exact gsU.ofv)
      refine ⟨_, rfl, gd, _, rfl, DPut.k (k := Sum.inr "has") gsU.hgd (small1000 (by omega)), _, rfl, q _ gd rs ms ru b5 gsF.bt gsF.nH ⟨ls, lm5, lr5, of, _, gsF.any, by_, byk, ?_, nbg, ?_, fun m hm => ?_⟩ ⟨hrs, rs1, hmn, hmo, hm8, hm1, hru, hroof⟩ ?_ (hB5.mono (by omega))⟩
      · rw [valV_put, if_neg (by decide +kernel)]; exact hbyv
      · rw [upd_ne nbg]; exact sU _ _ hby
      · obtain ⟨v, h1, h2⟩ := hbv m hm
        exact ⟨v, h1, dp_imm ((KeepT.of sU).trans (KeepT.at_ gsU.hgd dK_no)) h2 (m_imm m)⟩
      · rw [upd_ne (fun z => by rw [z, gsU.hgd] at hbU; cases hbU)]; exact hbU
end
abbrev s__law_any : Stmt := top 22
abbrev N__law_any : List Str := ["_law_box", "_law_roof"]
abbrev P__law_any : List Str := ["_law_box"]
theorem sc__law_any : FnScope N__law_any P__law_any (defScope s__law_any) := ⟨rfl, rfl, rfl, by decide +kernel, rfl, by decide +kernel, by decide +kernel⟩
def spAny (K : PySem.W.Frag) : Sp := fun vs H Q _ => ∃ (a : Addr) (m : Nat) (b : List V), vs = [.ref a] ∧ H a = some (.lst b) ∧ BoxL m b ∧ m + 8010 < 900000 ∧
  ∀ (H' : Hp) (gd : Addr) (rs : List SRow) (ms : List MRow) (ru : List RRow) (roof : Nat) (b' : List V), But a H H' → H gd = none → GramIn K H' a gd rs ms ru roof → GramOk rs ms ru roof → H' a = some (.lst b') → BoxL (m + 8010) b' → Q (.ref gd) H'
section
variable {P : Program} {w : World} {K : PySem.W.Frag} {mg : Str → Option Value} {base : Heap}
theorem ok_any (c_law_take : C8.Cal P w K mg base 1 "_law_take" spTake []) (c_law_drawn : C8.Cal P w K mg base 4 "_law_drawn" (spDrawn K) [])
    (D : Dd K mg "_law_any" s__law_any P__law_any) : C8.Cal P w K mg base 5 "_law_any" (spAny K) [] := by
  refine D.cal sc__law_any (fun vs H Q E h => ?_) (fun f cdv A outer s H vs Q E hr h => ?_)
  · obtain ⟨a, m, b, rfl, _⟩ := h
    rfl
  · obtain ⟨a, m, b, rfl, ha, hB, hm, q⟩ := h
    refine ⟨_, (pss_cons (ps_set (i := 1) sc__law_any.nd rfl (Or.inl rfl) (pe_ix ix_list (pe_lst (pa_cons pe_int (pa_cons pe_int (pa_cons (pe_op op_add pe_int (C8.pe_c c_law_take hr (by decide) (by rfl) (pa_cons (pv 0) (pa_cons pe_int pa_nil)))) pa_nil)))) (C8.pe_c c_law_take hr (by decide) (by rfl) (pa_cons (pv 0) (pa_cons pe_int pa_nil))) (fun _ _ => rfl)))
        (pss_one (ps_ret (C8.pe_c c_law_drawn hr (by decide) (by rfl) (pa_cons (pv 0) (pa_cons (pv 1) (pa_cons (pe_tup (pa_cons (pe_cmpR op_eq (C8.pe_c c_law_take hr (by decide) (by rfl) (pa_cons (pv 0) (pa_cons pe_int pa_nil))) pe_int (nomark _)) (pa_cons (pe_ix ix_list (pe_lst (pa_cons pe_int (pa_cons pe_int (pa_cons pe_int pa_nil)))) (C8.pe_c c_law_take hr (by decide) (by rfl) (pa_cons (pv 0) (pa_cons pe_int pa_nil))) (fun _ _ => rfl)) pa_nil))) pa_nil))))))), ?_⟩
    refine ⟨_, rfl, a, 9, _, b, rfl, ha, hB, by omega, by decide, by decide, fun r1 b1 r10 r11 hB1 => ?_⟩
    refine ⟨_, _, rfl, rfl, by show 3 ≤ sizeLine; decide, fun l1 n1 => ?_⟩
    obtain ⟨n9, rfl⟩ := Int.eq_ofNat_of_zero_le r10
    have hb1 : (upd H a (.lst b1)) a = some (.lst b1) := upd_same
    have bt1 : But a H (upd H a (.lst b1)) := But.upd (But.refl a H)
    have s1 := same_upd (o := .lst [.int 0, .int 0, .int (1 + ((n9 : Nat) : Int))]) n1
    have n1a : l1 ≠ a := fun z => by
      rw [z, hb1] at n1
      cases n1
    refine ⟨_, rfl, a, 3, _, b1, rfl, s1 _ _ hb1, hB1, by omega, by decide, by decide, fun r2 b2 r20 r21 hB2 => ?_⟩
    obtain ⟨n2, rfl⟩ := Int.eq_ofNat_of_zero_le r20
    have bt2 : But a H (upd (upd (upd H a (.lst b1)) l1 (.lst [.int 0, .int 0, .int (1 + ((n9 : Nat) : Int))])) a (.lst b2)) := (bt1.trans (But.of s1)).trans (But.upd (But.refl a _))
    have hb2 : (upd (upd (upd H a (.lst b1)) l1 (.lst [.int 0, .int 0, .int (1 + ((n9 : Nat) : Int))])) a (.lst b2)) a = some (.lst b2) := upd_same
    have hl2 : (upd (upd (upd H a (.lst b1)) l1 (.lst [.int 0, .int 0, .int (1 + ((n9 : Nat) : Int))])) a (.lst b2)) l1 = some (.lst [.int 0, .int 0, .int (1 + ((n9 : Nat) : Int))]) := by
      rw [upd_ne n1a]
      exact upd_same
    obtain ⟨X2, e2⟩ : ∃ X2, X2 = upd (upd (upd H a (.lst b1)) l1 (.lst [.int 0, .int 0, .int (1 + ((n9 : Nat) : Int))])) a (.lst b2) := ⟨_, rfl⟩
    rw [← e2] at bt2 hb2 hl2 ⊢
    obtain ⟨roof, hat, hroof⟩ : ∃ roof : Nat, atI [V.int 0, V.int 0, V.int (1 + ((n9 : Nat) : Int))] ((n2 : Nat) : Int) = some (.int (roof : Nat)) ∧ roof ≤ 9 := by
      rcases n2 with _ | _ | _ | n2
      · exact ⟨0, atI_nat (j := 0) rfl, by decide⟩
      · exact ⟨0, atI_nat (j := 1) rfl, by decide⟩
      · exact ⟨1 + n9, atI_nat (j := 2) rfl, by omega⟩
      · omega
    refine ⟨l1, _, _, _, rfl, rfl, SqL.of hl2, hat, ?_⟩
    refine ⟨_, rfl, _, rfl, _, rfl, a, 3, _, b2, rfl, hb2, hB2, by omega, by decide, by decide, fun r3 b3 r30 r31 hB3 => ?_⟩
    refine ⟨rfl, by show 3 ≤ sizeLine; decide, fun l3 n3 => ?_⟩
    have hb3 : (upd X2 a (.lst b3)) a = some (.lst b3) := upd_same
    have s3 := same_upd (o := .lst [.int 1000, .int 1000, .int 12]) n3
    have n3a : l3 ≠ a := fun z => by
      rw [z, hb3] at n3
      cases n3
    refine ⟨_, rfl, a, 3, _, b3, rfl, s3 _ _ hb3, hB3, by omega, by decide, by decide, fun r4 b4 r40 r41 hB4 => ?_⟩
    obtain ⟨n4, rfl⟩ := Int.eq_ofNat_of_zero_le r40
    have bt4 : But a H (upd (upd (upd X2 a (.lst b3)) l3 (.lst [.int 1000, .int 1000, .int 12])) a (.lst b4)) := ((bt2.trans (But.upd (But.refl a _))).trans (But.of s3)).trans (But.upd (But.refl a _))
    have hb4 : (upd (upd (upd X2 a (.lst b3)) l3 (.lst [.int 1000, .int 1000, .int 12])) a (.lst b4)) a = some (.lst b4) := upd_same
    have hl4 : (upd (upd (upd X2 a (.lst b3)) l3 (.lst [.int 1000, .int 1000, .int 12])) a (.lst b4)) l3 = some (.lst [.int 1000, .int 1000, .int 12]) := by
      rw [upd_ne n3a]
      exact upd_same
    obtain ⟨X4, e4⟩ : ∃ X4, X4 = upd (upd (upd X2 a (.lst b3)) l3 (.lst [.int 1000, .int 1000, .int 12])) a (.lst b4) := ⟨_, rfl⟩
    rw [← e4] at bt4 hb4 hl4 ⊢
    obtain ⟨wn, hat4, w0, w1⟩ : ∃ wn : Nat, atI [V.int 1000, V.int 1000, V.int 12] ((n4 : Nat) : Int) = some (.int (wn : Nat)) ∧ 0 < wn ∧ wn < 1000000 := by
      rcases n4 with _ | _ | _ | n4
      · exact ⟨1000, atI_nat (j := 0) rfl, by decide, by decide⟩
      · exact ⟨1000, atI_nat (j := 1) rfl, by decide, by decide⟩
      · exact ⟨12, atI_nat (j := 2) rfl, by decide, by decide⟩
      · omega
    refine ⟨l3, _, _, _, rfl, rfl, SqL.of hl4, hat4, by show 2 ≤ sizeLine; decide, fun t5 n5 => ?_⟩
    have s5 := same_upd (o := .tup [.bl (decide (V.int r3 = V.int 0)), .int (wn : Nat)]) n5
    exact ⟨a, roof, _, _, _, wn, b4, rfl, .tup (SqT.of upd_same) (.cons (.bl _) (.cons (.int _) .nil)), w0, w1, hroof, s5 _ _ hb4, hB4, by omega, fun H' gd rs ms ru b' bt ng gi go hb' hB' => q H' gd rs ms ru roof b' ((bt4.trans (But.of s5)).trans bt) (But.free (bt4.trans (But.of s5)) (s5 _ _ hb4) ng) gi go hb' (hB'.mono (by omega))⟩
end
/-! ### the least sizes of sorts -/
mutual
inductive Der (rows : List MRow) : List Nat → Nat → Prop
  | mk {mr : MRow} {ns : List Nat} : mr ∈ rows → DerAll rows mr.pt ns → Der rows mr.so (1 + ns.sum)
inductive DerAll (rows : List MRow) : List (List Nat) → List Nat → Prop
  | nil : DerAll rows [] []
  | cons {k : List Nat} {n : Nat} {ks : List (List Nat)} {ns : List Nat} : Der rows k n → DerAll rows ks ns → DerAll rows (k :: ks) (n :: ns)
end
def IsD (rows : List MRow) (k : List Nat) (n : Nat) : Prop := Der rows k n ∧ ∀ m, Der rows k m → n ≤ m
theorem least_of {p : Nat → Prop} : ∀ n, p n → ∃ m, p m ∧ (∀ j, p j → m ≤ j) ∧ m ≤ n := by
  intro n
  induction n using Nat.strongRecOn with
  | _ n ih =>
    intro hn
    by_cases h : ∃ j, j < n ∧ p j
    · obtain ⟨j, hj, pj⟩ := h
      obtain ⟨m, h1, h2, h3⟩ := ih j hj pj
      exact ⟨m, h1, h2, by omega⟩
    · exact ⟨n, hn, fun j pj => Nat.not_lt.mp fun z => h ⟨j, z, pj⟩, Nat.le_refl _⟩
theorem isD_of {rows : List MRow} {k : List Nat} {n : Nat} (h : Der rows k n) : ∃ m, IsD rows k m ∧ m ≤ n := by
  obtain ⟨m, h1, h2, h3⟩ := least_of n h
  exact ⟨m, ⟨h1, h2⟩, h3⟩
inductive DAll (rows : List MRow) : List (List Nat) → List Nat → Prop
  | nil : DAll rows [] []
  | cons {k : List Nat} {n : Nat} {ks : List (List Nat)} {ns : List Nat} : IsD rows k n → DAll rows ks ns → DAll rows (k :: ks) (n :: ns)
theorem dAll_of {rows : List MRow} : ∀ {ks : List (List Nat)} {ns : List Nat}, DerAll rows ks ns → ∃ ms, DAll rows ks ms ∧ ms.sum ≤ ns.sum
  | _, _, .nil => ⟨[], .nil, Nat.le_refl _⟩
  | _, _, .cons h r => by
    obtain ⟨m, h1, h2⟩ := isD_of h
    obtain ⟨ms, h3, h4⟩ := dAll_of r
    refine ⟨m :: ms, .cons h1 h3, ?_⟩
    rw [List.sum_cons, List.sum_cons]
    omega
theorem dAll_der {rows : List MRow} : ∀ {ks : List (List Nat)} {ns : List Nat}, DAll rows ks ns → DerAll rows ks ns
  | _, _, .nil => .nil
  | _, _, .cons h r => .cons h.1 (dAll_der r)
theorem best_row {rows : List MRow} {k : List Nat} {n : Nat} (h : IsD rows k n) : ∃ mr ms, mr ∈ rows ∧ mr.so = k ∧ DAll rows mr.pt ms ∧ n = 1 + ms.sum := by
  obtain ⟨h1, h2⟩ := h
  cases h1 with
  | mk hm hd =>
    rename_i mr ns
    obtain ⟨ms, h3, h4⟩ := dAll_of hd
    have := h2 _ (.mk hm (dAll_der h3))
    exact ⟨mr, ms, hm, rfl, h3, by omega⟩
/-! how many sorts have a smaller tree -/
noncomputable def smaller (rows : List MRow) (n : Nat) (k : List Nat) : Bool := @decide (∃ m, m < n ∧ Der rows k m) (Classical.propDecidable _)
theorem smaller_iff {rows : List MRow} {n : Nat} {k : List Nat} : smaller rows n k = true ↔ ∃ m, m < n ∧ Der rows k m := by
  unfold smaller
  exact @decide_eq_true_iff _ (Classical.propDecidable _)
theorem smaller_not {rows : List MRow} {n : Nat} {k : List Nat} (h : IsD rows k n) : smaller rows n k = false := by
  cases e : smaller rows n k with
  | false => rfl
  | true =>
    obtain ⟨j, hj, hd⟩ := smaller_iff.mp e
    have := h.2 j hd
    omega
noncomputable def rank (rows : List MRow) (names : List (List Nat)) (n : Nat) : Nat := (names.filter (smaller rows n)).length
theorem filter_lt {α : Type} {p q : α → Bool} (h : ∀ x, p x = true → q x = true) : ∀ {l : List α} {x : α}, x ∈ l → q x = true → p x = false → (l.filter p).length < (l.filter q).length := by
  have le : ∀ l : List α, (l.filter p).length ≤ (l.filter q).length := fun l => by
    induction l with
    | nil => exact Nat.le_refl _
    | cons y l ih =>
      rw [List.filter_cons, List.filter_cons]
      cases hp : p y with
      | true =>
        rw [h y hp]
        exact Nat.succ_le_succ ih
      | false =>
        cases hq : q y with
        | true => exact Nat.le_succ_of_le ih
        | false => exact ih
  intro l
  induction l with
  | nil => exact fun h => nomatch h
  | cons y l ih =>
    intro x hx hq hp
    rw [List.filter_cons, List.filter_cons]
    rcases List.mem_cons.mp hx with rfl | hx
    · rw [hp, hq]
      exact Nat.lt_succ_of_le (le l)
    · have := ih hx hq hp
      cases hp' : p y with
      | true =>
        rw [h y hp']
        exact Nat.succ_lt_succ this
      | false =>
        cases hq' : q y with
        | true => exact Nat.lt_succ_of_lt this
        | false => exact this
theorem rank_lt {rows : List MRow} {names : List (List Nat)} {k : List Nat} {n m : Nat} (hk : k ∈ names) (hm : IsD rows k m) (h : m < n) : rank rows names m < rank rows names n := by
  unfold rank
  refine filter_lt (fun x hx => ?_) hk (smaller_iff.mpr ⟨m, h, hm.1⟩) (smaller_not hm)
  obtain ⟨j, hj, hd⟩ := smaller_iff.mp hx
  exact smaller_iff.mpr ⟨j, by omega, hd⟩
theorem rank_le {rows : List MRow} {names : List (List Nat)} {k : List Nat} {n : Nat} (hk : k ∈ names) (h : IsD rows k n) : rank rows names n < names.length := by
  have := filter_lt (l := names) (p := smaller rows n) (q := fun _ => true) (fun _ _ => rfl) hk rfl (smaller_not h)
  rw [show names.filter (fun _ => true) = names from List.filter_eq_self.mpr (fun _ _ => rfl)] at this
  exact this
/-! the sizes told so far -/
def allIn (S : List Nat → Option Nat) (pt : List (List Nat)) : Bool := pt.all fun p => (S p).isSome
def sumS (S : List Nat → Option Nat) (pt : List (List Nat)) : Nat := (pt.map fun p => (S p).getD 0).sum
def putS (S : List Nat → Option Nat) (k : List Nat) (n : Nat) : List Nat → Option Nat := fun j => if j = k then some n else S j
def stepS (S : List Nat → Option Nat) (mr : MRow) : List Nat → Option Nat :=
  if allIn S mr.pt = true then putS S mr.so (min (1 + sumS S mr.pt) ((S mr.so).getD (1 + sumS S mr.pt))) else S
def Sound (rows : List MRow) (S : List Nat → Option Nat) : Prop := ∀ k n, S k = some n → Der rows k n
theorem der_all {rows : List MRow} {S : List Nat → Option Nat} (hS : Sound rows S) : ∀ {pt : List (List Nat)}, allIn S pt = true → DerAll rows pt (pt.map fun p => (S p).getD 0)
  | [], _ => .nil
  | p :: pt, h => by
    obtain ⟨h1, h2⟩ := Bool.and_eq_true_iff.mp (show ((S p).isSome && allIn S pt) = true from h)
    cases e : S p with
    | none => rw [e] at h1; cases h1
    | some n =>
      rw [List.map_cons, e]
      exact .cons (hS p n e) (der_all hS h2)
theorem sound_step {rows : List MRow} {S : List Nat → Option Nat} (hS : Sound rows S) {mr : MRow} (hm : mr ∈ rows) : Sound rows (stepS S mr) := by
  intro k n h
  unfold stepS at h
  split at h
  · rename_i ha
    unfold putS at h
    split at h
    · rename_i hk
      subst hk
      cases h
      have d : Der rows mr.so (1 + sumS S mr.pt) := .mk hm (der_all hS ha)
      cases e : S mr.so with
      | none =>
        rw [Option.getD_none, Nat.min_self]
        exact d
      | some v =>
        rw [Option.getD_some]
        rcases Nat.le_total (1 + sumS S mr.pt) v with z | z
        · rw [Nat.min_eq_left z]; exact d
        · rw [Nat.min_eq_right z]; exact hS _ _ e
    · exact hS k n h
  · exact hS k n h
theorem step_le {S : List Nat → Option Nat} {mr : MRow} {k : List Nat} {n : Nat} (h : S k = some n) : ∃ m, stepS S mr k = some m ∧ m ≤ n := by
  unfold stepS
  split
  · unfold putS
    split
    · rename_i hk
      subst hk
      rw [h]
      exact ⟨_, rfl, Nat.min_le_right _ _⟩
    · exact ⟨n, h, Nat.le_refl _⟩
  · exact ⟨n, h, Nat.le_refl _⟩
theorem exact_step {rows : List MRow} {S : List Nat → Option Nat} (hS : Sound rows S) {mr : MRow} (hm : mr ∈ rows) {k : List Nat} {n : Nat} (hd : IsD rows k n) (h : S k = some n) : stepS S mr k = some n := by
  obtain ⟨m, h1, h2⟩ := step_le (mr := mr) h
  have := hd.2 m (sound_step hS hm k m h1)
  rw [h1, show m = n by omega]
theorem step_at {S : List Nat → Option Nat} {mr : MRow} (h : allIn S mr.pt = true) : stepS S mr mr.so = some (min (1 + sumS S mr.pt) ((S mr.so).getD (1 + sumS S mr.pt))) := by
  unfold stepS
  rw [if_pos h]
  unfold putS
  rw [if_pos rfl]
theorem sound_run {rows : List MRow} : ∀ (l : List MRow) {S : List Nat → Option Nat}, Sound rows S → (∀ r ∈ l, r ∈ rows) → Sound rows (l.foldl stepS S)
  | [], _, h, _ => h
  | r :: l, _, h, hl => sound_run l (sound_step h (hl r (List.mem_cons_self ..))) fun x hx => hl x (List.mem_cons_of_mem _ hx)
theorem exact_run {rows : List MRow} {k : List Nat} {n : Nat} (hd : IsD rows k n) : ∀ (l : List MRow) {S : List Nat → Option Nat}, Sound rows S → (∀ r ∈ l, r ∈ rows) → S k = some n → l.foldl stepS S k = some n
  | [], _, _, _, e => e
  | r :: l, _, h, hl, e => exact_run hd l (sound_step h (hl r (List.mem_cons_self ..))) (fun x hx => hl x (List.mem_cons_of_mem _ hx)) (exact_step h (hl r (List.mem_cons_self ..)) hd e)
theorem sum_exact {rows : List MRow} {S : List Nat → Option Nat} : ∀ {pt : List (List Nat)} {ms : List Nat}, DAll rows pt ms → (∀ p m, p ∈ pt → IsD rows p m → m ≤ ms.sum → S p = some m) → allIn S pt = true ∧ sumS S pt = ms.sum
  | _, _, .nil, _ => ⟨rfl, rfl⟩
  | _, _, .cons (k := k) (n := n) (ks := ks) (ns := ns) h r, f => by
    have e := f k n (List.mem_cons_self ..) h (by rw [List.sum_cons]; omega)
    obtain ⟨h1, h2⟩ := sum_exact (S := S) r fun p m hp hd hle => f p m (List.mem_cons_of_mem _ hp) hd (by rw [List.sum_cons]; omega)
    refine ⟨?_, ?_⟩
    · show ((S k).isSome && allIn S ks) = true
      rw [e, h1]
      rfl
    · unfold sumS at *
      rw [List.map_cons, List.sum_cons, List.sum_cons, h2, e]
      rfl
/-- one pass more -/
theorem pass_exact {rows : List MRow} {names : List (List Nat)} (hn : ∀ r ∈ rows, ∀ p ∈ r.pt, p ∈ names) {S : List Nat → Option Nat} {i : Nat} (hS : Sound rows S) (h : ∀ k n, IsD rows k n → rank rows names n < i → S k = some n) :
    ∀ k n, IsD rows k n → rank rows names n < i + 1 → rows.foldl stepS S k = some n := by
  intro k n hd hr
  obtain ⟨mr, ms, hm, rfl, ha, en⟩ := best_row hd
  obtain ⟨l1, l2, el⟩ := List.append_of_mem hm
  have m1 : ∀ r ∈ l1, r ∈ rows := fun r hr => by rw [el]; exact List.mem_append_left _ hr
  have m2 : ∀ r ∈ l2, r ∈ rows := fun r hr => by rw [el]; exact List.mem_append_right _ (List.mem_cons_of_mem _ hr)
  have S1 := sound_run l1 hS m1
  obtain ⟨q1, q2⟩ := sum_exact (S := l1.foldl stepS S) ha fun p m hp hdp hle => by
    have hpn := hn mr hm p hp
    have := rank_lt (rows := rows) (n := n) hpn hdp (by omega)
    exact exact_run hdp l1 hS m1 (h p m hdp (by omega))
  have ex : stepS (l1.foldl stepS S) mr mr.so = some n := by
    have s2 := sound_step S1 hm
    have e := step_at (mr := mr) q1
    have lb := hd.2 _ (s2 _ _ e)
    rw [e]
    rw [q2, ← en] at lb ⊢
    have := Nat.min_le_left n ((l1.foldl stepS S mr.so).getD n)
    congr 1
    omega
  rw [el, List.foldl_append, List.foldl_cons]
  exact exact_run hd l2 (sound_step S1 hm) m2 ex
theorem passes {rows : List MRow} {names : List (List Nat)} (hn : ∀ r ∈ rows, ∀ p ∈ r.pt, p ∈ names) : ∀ i, Sound rows ((List.replicate i rows).flatten.foldl stepS fun _ => none) ∧ ∀ k n, IsD rows k n → rank rows names n < i → (List.replicate i rows).flatten.foldl stepS (fun _ => none) k = some n
  | 0 => ⟨(fun k n h => nomatch h), fun k n _ h => nomatch h⟩
  | i + 1 => by
    obtain ⟨h1, h2⟩ := passes hn i
    have e : (List.replicate (i + 1) rows).flatten = (List.replicate i rows).flatten ++ rows := by
      rw [List.replicate_succ', List.flatten_append]
      simp
    rw [e, List.foldl_append]
    exact ⟨sound_run rows h1 fun r h => h, pass_exact hn h1 h2⟩
theorem sum_le {rows : List MRow} {c : Nat} : ∀ {pt : List (List Nat)} {ms : List Nat}, DAll rows pt ms → (∀ p m, p ∈ pt → IsD rows p m → m ≤ ms.sum → m ≤ c) → ms.sum ≤ pt.length * c
  | _, _, .nil, _ => by simp
  | _, _, .cons (k := k) (n := n) (ks := ks) (ns := ns) h r, f => by
    have e := f k n (List.mem_cons_self ..) h (by rw [List.sum_cons]; omega)
    have h2 := sum_le (c := c) r fun p m hp hd hle => f p m (List.mem_cons_of_mem _ hp) hd (by rw [List.sum_cons]; omega)
    rw [List.sum_cons, List.length_cons, Nat.add_mul]
    omega
theorem size_le {rows : List MRow} {names : List (List Nat)} (hn : ∀ r ∈ rows, ∀ p ∈ r.pt, p ∈ names) (h2 : ∀ r ∈ rows, r.pt.length ≤ 2) : ∀ (i : Nat) (k : List Nat) (n : Nat), IsD rows k n → rank rows names n < i → n + 1 ≤ 2 ^ i := by
  intro i
  induction i with
  | zero => exact fun k n _ h => nomatch h
  | succ i ih =>
    intro k n hd hr
    obtain ⟨mr, ms, hm, rfl, ha, en⟩ := best_row hd
    have := sum_le (c := 2 ^ i - 1) ha fun p m hp hdp hle => by
      have := rank_lt (rows := rows) (n := n) (hn mr hm p hp) hdp (by omega)
      have := ih p m hdp (by omega)
      omega
    have hl := h2 mr hm
    have hp : 0 < 2 ^ i := Nat.pow_pos (by decide)
    have : mr.pt.length * (2 ^ i - 1) ≤ 2 * (2 ^ i - 1) := Nat.mul_le_mul_right _ hl
    rw [Nat.pow_succ]
    omega
/-- four passes tell the least sizes of at most four sorts -/
structure SzOk (rows : List MRow) (S : List Nat → Option Nat) : Prop where
  some : ∀ k n, S k = some n → 1 ≤ n ∧ n ≤ 15 ∧ ∃ mr ∈ rows, mr.so = k ∧ allIn S mr.pt = true ∧ n = 1 + sumS S mr.pt
theorem four_passes {rows : List MRow} {names : List (List Nat)} (hn : ∀ r ∈ rows, ∀ p ∈ r.pt, p ∈ names) (hs : ∀ r ∈ rows, r.so ∈ names) (h2 : ∀ r ∈ rows, r.pt.length ≤ 2) (h4 : names.length ≤ 4) : SzOk rows ((List.replicate 4 rows).flatten.foldl stepS fun _ => none) := by
  obtain ⟨h1, h3⟩ := passes hn 4
  refine ⟨fun k n e => ?_⟩
  have hd := h1 k n e
  obtain ⟨m, hm, hle⟩ := isD_of hd
  obtain ⟨mr, ms, hmr, rfl, ha, en⟩ := best_row hm
  have r4 : rank rows names m < 4 := Nat.lt_of_lt_of_le (rank_le (hs mr hmr) hm) h4
  have e2 := h3 _ m hm r4
  rw [e] at e2
  obtain rfl := Option.some.inj e2
  have b := size_le hn h2 4 _ n hm r4
  obtain ⟨q1, q2⟩ := sum_exact (S := (List.replicate 4 rows).flatten.foldl stepS fun _ => none) ha fun p m' hp hdp hle => by
    have := rank_lt (rows := rows) (n := n) (hn mr hmr p hp) hdp (by omega)
    exact h3 p m' hdp (by omega)
  exact ⟨by omega, by omega, mr, hmr, rfl, q1, by rw [q2]; exact en⟩
abbrev s__law_sizes : Stmt := top 23
abbrev N__law_sizes : List Str := ["_law_g", "_law_sizes_here", "_law_making", "_law_kind", "_law_parts", "_law_size", "_law_part"]
abbrev P__law_sizes : List Str := ["_law_g"]
theorem sc__law_sizes : FnScope N__law_sizes P__law_sizes (defScope s__law_sizes) := ⟨rfl, rfl, rfl, by decide +kernel, rfl, by decide +kernel, by decide +kernel⟩
structure Zs (mg : Str → Option Value) : Prop where
  all : mg "all" = none
  sum : mg "sum" = none
  min : mg "min" = none
/-- sizes on the heap -/
structure SzAt (Y : Hp) (dz : Addr) (kvs : List (Key × V)) (S : List Nat → Option Nat) (names : List (List Nat)) : Prop where
  d : Y dz = some (.dK kvs)
  v : ∀ k, valV kvs (kS k) = (S k).map fun n => V.int ((n : Nat) : Int)
  ks : ∃ ws : List (List Nat), kvs.map (·.1) = ws.map kS ∧ ws.Nodup ∧ ∀ w ∈ ws, w ∈ names
def spSizes (K : PySem.W.Frag) : Sp := fun vs H Q _ => ∃ (a gd : Addr) (rs : List SRow) (ms : List MRow) (ru : List RRow) (roof : Nat), vs = [.ref gd] ∧ GramIn K H a gd rs ms ru roof ∧ GramOk rs ms ru roof ∧
  ∀ (H' : Hp) (dz : Addr) (kvs : List (Key × V)) (S : List Nat → Option Nat), Same H H' → H dz = none → SzAt H' dz kvs S (rs.map SRow.nm) → SzOk ms S → Q (.ref dz) H'
theorem dpAll_rep {K : PySem.W.Frag} {H : Hp} {vs : List V} {ds : List PyData} (h : DpAll K H vs ds) : ∀ n, DpAll K H (List.replicate n vs).flatten (List.replicate n ds).flatten
  | 0 => .nil
  | n + 1 => by
    rw [List.replicate_succ, List.flatten_cons, List.replicate_succ, List.flatten_cons]
    exact dpAll_appI h (dpAll_rep h n)
theorem put_in {kvs : List (Key × V)} {k : Key} (v : V) (hk : k ∈ kvs.map (·.1)) : (putK kvs k v).map (·.1) = kvs.map (·.1) := by
  unfold putK
  have h : (kvs.any fun kv => decide (kv.1 = k)) = true := by
    obtain ⟨x, hx, e⟩ := List.mem_map.mp hk
    exact List.any_eq_true.mpr ⟨x, hx, decide_eq_true e⟩
  rw [if_pos h, List.map_map]
  refine List.map_congr_left fun x _ => ?_
  show (if x.1 = k then (x.1, v) else x).1 = x.1
  split <;> rfl
theorem put_out {kvs : List (Key × V)} {k : Key} (v : V) (hk : k ∉ kvs.map (·.1)) : (putK kvs k v).map (·.1) = kvs.map (·.1) ++ [k] := by
  unfold putK
  have h : ¬ (kvs.any fun kv => decide (kv.1 = k)) = true := fun h => hk (by
    obtain ⟨x, hx, e⟩ := List.any_eq_true.mp h
    exact List.mem_map.mpr ⟨x, hx, of_decide_eq_true e⟩)
  rw [if_neg h, List.map_append]
  rfl
theorem SzAt.put {Y : Hp} {dz : Addr} {kvs : List (Key × V)} {S : List Nat → Option Nat} {names : List (List Nat)} (h : SzAt Y dz kvs S names) {k : List Nat} (hk : k ∈ names) (n : Nat) : SzAt (upd Y dz (.dK (putK kvs (kS k) (.int ((n : Nat) : Int))))) dz (putK kvs (kS k) (.int ((n : Nat) : Int))) (putS S k n) names := by
  refine ⟨upd_same, fun j => ?_, ?_⟩
  · rw [valV_put]
    unfold putS
    by_cases e : j = k
    · rw [if_pos (by rw [e]), if_pos e]
      rfl
    · rw [if_neg (fun z => e (kS_inj z)), if_neg e]
      exact h.v j
  · obtain ⟨ws, h1, h2, h3⟩ := h.ks
    have hkk : kS k ∈ ws.map kS ↔ k ∈ ws := ⟨fun z => by
      obtain ⟨w, hw, e⟩ := List.mem_map.mp z
      rw [← kS_inj e]
      exact hw, fun z => List.mem_map_of_mem z⟩
    by_cases e : k ∈ ws
    · rw [put_in _ (by rw [h1]; exact hkk.mpr e), h1]
      exact ⟨ws, rfl, h2, h3⟩
    · rw [put_out _ (by rw [h1]; exact fun z => e (hkk.mp z)), h1]
      refine ⟨ws ++ [k], by rw [List.map_append]; rfl, ?_, fun w hw => ?_⟩
      · rw [List.nodup_append]
        exact ⟨h2, by simp, fun x hx y hy z => by
          rw [List.mem_singleton.mp hy] at z
          rw [z] at hx
          exact e hx⟩
      · rcases List.mem_append.mp hw with z | z
        · exact h3 w z
        · rw [List.mem_singleton.mp z]
          exact hk
theorem SzAt.same {Y Z : Hp} {dz : Addr} {kvs : List (Key × V)} {S : List Nat → Option Nat} {names : List (List Nat)} (h : SzAt Y dz kvs S names) (s : Same Y Z) : SzAt Z dz kvs S names := ⟨s _ _ h.d, h.v, h.ks⟩
theorem sum_cast (f : List Nat → Nat) : ∀ pt : List (List Nat), (pt.map fun p => ((f p : Nat) : Int)).sum = (((pt.map f).sum : Nat) : Int)
  | [] => rfl
  | p :: pt => by
    rw [List.map_cons, List.sum_cons, sum_cast f pt, List.map_cons, List.sum_cons]
    omega
theorem all_cast (S : List Nat → Option Nat) : ∀ pt : List (List Nat), (pt.map fun p => (S p).isSome).all id = allIn S pt
  | [] => rfl
  | p :: pt => by
    rw [List.map_cons, List.all_cons, all_cast S pt]
    rfl
theorem min_cast (i j : Nat) : (if ((j : Nat) : Int) < ((i : Nat) : Int) then ((j : Nat) : Int) else ((i : Nat) : Int)) = ((min i j : Nat) : Int) := by
  split <;> omega
theorem get_cast (S : List Nat → Option Nat) (k : List Nat) (n : Nat) : ((S k).map fun n => V.int ((n : Nat) : Int)).getD (.int ((n : Nat) : Int)) = .int (((S k).getD n : Nat) : Int) := by
  cases S k <;> rfl
theorem m_at {K : PySem.W.Frag} {H : Hp} {v : V} {mr : MRow} (h : Dp K H v mr.d) : ∃ q t, v = .ref q ∧ SqT K H q [.str (SX.S mr.nm), .str (SX.S mr.so), .ref t] ∧ SqT K H t (nmV mr.pt) := row_at h
theorem nmV_get {ws : List (List Nat)} {i : Nat} {x : V} (h : (nmV ws)[i]? = some x) : ∃ u, ws[i]? = some u ∧ x = .str (SX.S u) := by
  unfold nmV at h
  rw [List.getElem?_map] at h
  cases e : ws[i]? with
  | none => rw [e] at h; cases h
  | some u => rw [e] at h; exact ⟨u, rfl, (Option.some.inj h).symm⟩
section
variable {P : Program} {w : World} {K : PySem.W.Frag} {mg : Str → Option Value} {base : Heap}
theorem ok_sizes (T : Zs mg) (D : Dd K mg "_law_sizes" s__law_sizes P__law_sizes) : C8.Cal P w K mg base 2 "_law_sizes" (spSizes K) [] := by
  refine D.cal sc__law_sizes (fun vs H Q E h => ?_) (fun f cdv A outer s H vs Q E hr h => ?_)
  · obtain ⟨a, gd, rs, ms, ru, roof, rfl, _⟩ := h
    rfl
  · obtain ⟨a, gd, rs, ms, ru, roof, rfl, gi, go, q⟩ := h
    refine ⟨_, (pss_cons (ps_set (i := 1) sc__law_sizes.nd rfl (Or.inr rfl) pe_dnewK)
        (pss_cons (ps_for PassesOwn.never rfl (pi_list (pe_op op_rep (pe_dget (hu_of hr) (pv 0) pe_str (fun _ _ => rfl)) pe_int)) (pg_tup rfl (pgs_cons (pg_name (i := 2) sc__law_sizes.nd rfl (Or.inl rfl)) (pgs_cons (pg_name (i := 3) sc__law_sizes.nd rfl (Or.inl rfl)) (pgs_cons (pg_name (i := 4) sc__law_sizes.nd rfl (Or.inl rfl)) pgs_nil))))
          (pss_one (ps_if (pt_val (pe_callB (cr_all rfl) (by rfl) T.all (by decide +kernel) (pa_cons (pe_lc (own := [("_law_part", 6)]) (by exact rfl) sc__law_sizes.nd (pi_tup (pv 4)) (blkOk_by (own := [("_law_part", 6)]) (N := N__law_sizes) (sc := defScope s__law_sizes) (by decide +kernel)) (fun _ _ _ _ _ => (pg_name (i := 6) sc__law_sizes.nd rfl (Or.inl rfl))) (fun _ _ _ _ _ => pts_nil) (fun _ _ _ _ _ => (pe_cmp (pc_din (hu_of hr) (pv 6) (pv 1)) (by with_unfolding_all rfl)))) pa_nil)))
          (pss_cons (ps_set (i := 5) sc__law_sizes.nd rfl (Or.inl rfl) (pe_op op_add pe_int (pe_callB (cr_sum rfl) (by rfl) T.sum (by decide +kernel) (pa_cons (pe_lc (own := [("_law_part", 6)]) (by exact rfl) sc__law_sizes.nd (pi_tup (pv 4)) (blkOk_by (own := [("_law_part", 6)]) (N := N__law_sizes) (sc := defScope s__law_sizes) (by decide +kernel)) (fun _ _ _ _ _ => (pg_name (i := 6) sc__law_sizes.nd rfl (Or.inl rfl))) (fun _ _ _ _ _ => pts_nil) (fun _ _ _ _ _ => (pe_dget (hu_of hr) (pv 1) (pv 6) (fun _ _ => rfl)))) pa_nil))))
        (pss_one (ps_dput (hu_of hr) (pv 1) (pv 3) (pe_callB (call_min2 rfl) (by rfl) T.min (by decide +kernel) (pa_cons (pv 5) (pa_cons (pe_dget2 (hu_of hr) (pv 1) (pv 3) (pv 5) (by exact ⟨rfl, rfl, rfl, rfl⟩)) pa_nil))) (by rfl))))
          pss_nil)))
        (pss_one (ps_ret (pv 1))))), ?_⟩
    obtain ⟨ls, lm, lr, of, gkv, gs, _⟩ := gi.ex
    obtain ⟨mv, hlm, hmv⟩ := gs.hlm
    have lmv := dpAll_len hmv
    rw [List.length_map] at lmv
    have hm8 := go.m8
    refine fun dz nz => ?_
    have s1 := same_upd (o := .dK []) nz
    refine ⟨_, rfl, gd, .ref lm, rfl, by have h := DGet.k (k := Sum.inr "makings") (s1 _ _ gs.hgd); rw [gs.mak] at h; exact h, lm, 4, mv, rfl, rfl, s1 _ _ hlm, by decide, by decide, ?_, fun L nL => ?_⟩
    · refine Nat.le_trans (show _ ≤ 100 from ?_) (by decide)
      show mv.length * 4 ≤ 100
      omega
    have s2 := same_upd (o := .lst (List.replicate (Int.toNat 4) mv).flatten) nL
    have s12 := s1.trans s2
    have nzL : dz ≠ L := fun z => by
      rw [← z, upd_same] at nL
      cases nL
    have eR : (List.replicate 4 (ms.map MRow.d)).flatten = ((List.replicate 4 ms).flatten).map MRow.d := by simp [List.map_flatten]
    have hR : DpAll K (upd (upd H dz (.dK [])) L (.lst (List.replicate (Int.toNat 4) mv).flatten)) (List.replicate 4 mv).flatten (((List.replicate 4 ms).flatten).map MRow.d) := by
      rw [← eR]
      exact dpAll_same s12 (dpAll_rep hmv 4)
    have lR := dpAll_len hR
    rw [List.length_map] at lR
    have lR32 : ((List.replicate 4 ms).flatten).length ≤ 32 := by
      simp
      omega
    have hmem : ∀ r ∈ (List.replicate 4 ms).flatten, r ∈ ms := fun r hr => by
      obtain ⟨l, hl, hrl⟩ := List.mem_flatten.mp hr
      rw [List.eq_of_mem_replicate hl] at hrl
      exact hrl
    have hL2 : (upd (upd H dz (.dK [])) L (.lst (List.replicate (Int.toNat 4) mv).flatten)) L = some (.lst (List.replicate 4 mv).flatten) := upd_same
    have hz2 : (upd (upd H dz (.dK [])) L (.lst (List.replicate (Int.toNat 4) mv).flatten)) dz = some (.dK []) := s2 _ _ upd_same
    obtain ⟨Y0, eY0⟩ : ∃ Y0, Y0 = upd (upd H dz (.dK [])) L (.lst (List.replicate (Int.toNat 4) mv).flatten) := ⟨_, rfl⟩
    rw [← eY0] at s12 hR hL2 hz2 ⊢
    generalize eRR : (List.replicate 4 ms).flatten = R at hR lR lR32 hmem
    refine ⟨L, rfl, ⟨_, SqL.of hL2⟩, for_list (K := K) (a := L) (xs := (List.replicate 4 mv).flatten) (fun j σ Y => ∃ (y2 y3 y4 y5 y6 : Option V) (kvs : List (Key × V)), σ = [some (.ref gd), some (.ref dz), y2, y3, y4, y5, y6] ∧ Same H Y ∧ KeepT Y0 Y ∧ Y L = some (.lst (List.replicate 4 mv).flatten) ∧ SzAt Y dz kvs ((R.take j).foldl stepS fun _ => none) (rs.map SRow.nm) ∧ kvs.length ≤ j)
      ⟨none, none, none, none, none, [], rfl, s12, KeepT.refl _, hL2, ⟨hz2, fun k => rfl, [], rfl, List.nodup_nil, (fun w h => nomatch h)⟩, Nat.le_refl _⟩ (fun j σ Y _ ⟨_, _, _, _, _, _, _, _, _, h, _⟩ => SqL.of h) ?_ ?_⟩
    · rintro j x σ Y hx ⟨y2, y3, y4, y5, y6, kvs, rfl, sY, kY, hL, sz, kl⟩
      obtain ⟨dd, hdd, hxd⟩ := dpAll_at hR hx
      rw [List.getElem?_map] at hdd
      obtain ⟨mr, hmr, rfl⟩ : ∃ mr, R[j]? = some mr ∧ dd = mr.d := by
        cases h : R[j]? with
        | none => rw [h] at hdd; cases hdd
        | some e => rw [h] at hdd; exact ⟨e, rfl, (Option.some.inj hdd).symm⟩
      have hj : j < R.length := (List.getElem?_eq_some_iff.mp hmr).1
      have tk : R.take (j + 1) = R.take j ++ [mr] := by rw [List.take_add_one, hmr]; rfl
      have hmm := hmem mr (List.mem_of_getElem? hmr)
      have mok := go.ok mr hmm
      have p2 := mok.p2
      obtain ⟨q0, t, rfl, hq, ht⟩ := m_at (dp_imm kY hxd mr.imm)
      rw [tk, List.foldl_append]
      generalize (R.take j).foldl stepS (fun _ => none) = S at sz
      refine ⟨q0, _, rfl, hq, rfl, _, _, rfl, _, _, rfl, _, _, rfl, rfl, ?_⟩
      -- are all its parts told
      refine ⟨_, rfl, t, rfl, ⟨_, ht⟩, fun D nD => ?_⟩
      refine lc_tup (K := K) (a := t) (xs := nmV mr.pt) (fun i U => Same Y U ∧ U D = some (.lst ((mr.pt.take i).map fun p => V.bl (S p).isSome))) ⟨same_upd nD, upd_same⟩ (fun i U _ h => Same.seqT h.1 ht) ?_ ?_
      · rintro i v U hv ⟨sU, hD⟩
        obtain ⟨p, hp, rfl⟩ := nmV_get hv
        have hi : i < mr.pt.length := (List.getElem?_eq_some_iff.mp hp).1
        refine ⟨rfl, yesT ?_⟩
        refine ⟨_, rfl, _, rfl, dz, _, rfl, DGet.k (k := kS p) (sU _ _ sz.d), _, hD, small1000 (by rw [List.length_map, List.length_take]; omega), Same.at_ sU nD, ?_⟩
        rw [sz.v p, List.take_add_one, hp, List.map_append]
        rw [show ((S p).map fun n => V.int ((n : Nat) : Int)).isSome = (S p).isSome by cases S p <;> rfl]
        exact upd_same
      · rintro U ⟨sU, hD⟩
        rw [nmV_len, List.take_length] at hD
        refine ⟨D, mr.pt.map fun p => (S p).isSome, rfl, SqL.of (by rw [List.map_map]; exact hD), _, rfl, ?_⟩
        rw [all_cast]
        have szU := sz.same sU
        have sHU := sY.trans sU
        have kU := kY.trans (KeepT.of sU)
        have hLU := sU _ _ hL
        cases ha : allIn S mr.pt with
        | false =>
          refine ⟨_, _, _, _, _, kvs, rfl, sHU, kU, hLU, ?_, by omega⟩
          show SzAt U dz kvs (stepS S mr) (rs.map SRow.nm)
          unfold stepS
          rw [if_neg (by rw [ha]; decide)]
          exact szU
        | true =>
          have ht2 := Same.seqT sU ht
          -- its size
          refine ⟨_, rfl, t, rfl, ⟨_, ht2⟩, fun D2 nD2 => ?_⟩
          refine lc_tup (K := K) (a := t) (xs := nmV mr.pt) (fun i W => Same U W ∧ W D2 = some (.lst ((mr.pt.take i).map fun p => V.int (((S p).getD 0 : Nat) : Int)))) ⟨same_upd nD2, upd_same⟩ (fun i W _ h => Same.seqT h.1 ht2) ?_ ?_
          · rintro i v W hv ⟨sW, hD2⟩
            obtain ⟨p, hp, rfl⟩ := nmV_get hv
            have hi : i < mr.pt.length := (List.getElem?_eq_some_iff.mp hp).1
            have hsome : ∃ n, S p = some n := by
              have := List.all_eq_true.mp ha p (List.mem_of_getElem? hp)
              cases e : S p with
              | none => rw [e] at this; cases this
              | some n => exact ⟨n, rfl⟩
            obtain ⟨n, hn⟩ := hsome
            refine ⟨rfl, yesT ?_⟩
            refine ⟨_, rfl, _, rfl, dz, .int ((n : Nat) : Int), rfl, by have h := DGet.k (k := kS p) (sW _ _ szU.d); rw [sz.v p, hn] at h; exact h, _, hD2, small1000 (by rw [List.length_map, List.length_take]; omega), Same.at_ sW nD2, ?_⟩
            rw [List.take_add_one, hp, List.map_append]
            show _ = some (HO.lst (_ ++ [V.int (((S p).getD 0 : Nat) : Int)]))
            rw [hn]
            exact upd_same
          · rintro W ⟨sW, hD2⟩
            rw [nmV_len, List.take_length] at hD2
            refine ⟨D2, mr.pt.map fun p => (((S p).getD 0 : Nat) : Int), rfl, SqL.of (by rw [List.map_map]; exact hD2), _, _, rfl, rfl, ?_⟩
            rw [sum_cast]
            have szW := szU.same sW
            refine ⟨_, rfl, _, rfl, dz, rfl, .inl ⟨_, Rd.of szW.d⟩, _, rfl, _, rfl, _, DGet.k (k := kS mr.so) szW.d, ?_⟩
            rw [sz.v mr.so]
            show ∃ i j, _ = _ ∧ _
            refine ⟨((1 + sumS S mr.pt : Nat) : Int), (((S mr.so).getD (1 + sumS S mr.pt) : Nat) : Int), ?_, ?_⟩
            · rw [← get_cast]
              rfl
            · rw [min_cast]
              refine ⟨_, rfl, _, rfl, dz, _, rfl, DPut.k (k := kS mr.so) szW.d (small1000 (by omega)), _, _, _, _, _, putK kvs (kS mr.so) (.int ((min (1 + sumS S mr.pt) ((S mr.so).getD (1 + sumS S mr.pt)) : Nat) : Int)), rfl, ?_, ?_, ?_, ?_, ?_⟩
              · exact fun c o hc => by
                  rw [upd_ne (ne_of_none hc nz)]
                  exact (sHU.trans sW) c o hc
              · exact (kU.trans (KeepT.of sW)).trans (KeepT.at_ szW.d dK_no)
              · rw [upd_ne nzL.symm]
                exact sW _ _ hLU
              · show SzAt _ dz _ (stepS S mr) (rs.map SRow.nm)
                unfold stepS
                rw [if_pos ha]
                obtain ⟨r, hr, er⟩ := mok.so mr.so (List.mem_cons_self ..)
                exact szW.put (List.mem_map.mpr ⟨r, hr, er⟩) _
              · have := length_putK kvs (kS mr.so) (.int ((min (1 + sumS S mr.pt) ((S mr.so).getD (1 + sumS S mr.pt)) : Nat) : Int))
                omega
    · rintro σ Y ⟨y2, y3, y4, y5, y6, kvs, rfl, sY, kY, hL, sz, kl⟩
      rw [lR, List.take_length, ← eRR] at sz
      have nm : ∀ r ∈ ms, ∀ k ∈ r.places, k ∈ rs.map SRow.nm := fun r hr k hk => by
        obtain ⟨x, hx, e⟩ := (go.ok r hr).so k hk
        exact List.mem_map.mpr ⟨x, hx, e⟩
      exact ⟨_, rfl, q Y dz kvs _ sY nz sz (four_passes (names := rs.map SRow.nm) (fun r hr p hp => nm r hr p (List.mem_cons_of_mem _ hp)) (fun r hr => nm r hr _ (List.mem_cons_self ..)) (fun r hr => (go.ok r hr).p2) (by rw [List.length_map]; exact go.so.le))⟩
end
/-! ### enumerate of a tuple -/
def tupIt (l : Addr) : Obj := { cls := .type "tuple_iterator", data := .fields #[.ref l, .int 0 0] }
def enumAt (it : Addr) : Obj := { cls := .type "enumerate", data := .fields #[.none, .bool false, .ref it, rawInt 0, .none, .none] }
set_option maxRecDepth 100000 in
set_option maxHeartbeats 1000000 in
theorem meets_enumT (l : Addr) (items : Array Value) (n : Nat) (dct : Option Addr) (sl : Array (Option Value)) :
    Meets (Builtin.«enumerate.__new__» ⟨[.type "enumerate", .ref l], []⟩) (fun _ R s => s.heap.get? l = some { cls := .type "tuple", dict := dct, data := .seq items n, slots := sl } ∧
      R (.ok (.ret (.ref (s.heap.push (tupIt l)).objs.size))) { s with heap := (s.heap.push (tupIt l)).push (enumAt s.heap.objs.size) }) :=
  .of_wp fun prog w A R s h => by
    obtain ⟨hp, g, d, tk, os⟩ := s
    obtain ⟨hl, h⟩ := h
    have hsub := sub_enumerate
    have hL : Heap.IsTuple (Shared.heap ⟨hp, g, d, tk, os⟩) l items := ⟨_, hl, rfl, n, rfl⟩
    wp_walk using AutoSeq1.wpAny_loadPart' hl
    refine wpAny_stack_any fun st => wpAny_pure ?_
    split
    · rename_i c _ _ _ _ _
      cases (c == Value.type "enumerate")
      · wp_walk using AutoSeq1.wpAny_loadPart' hl, wpAny_pyIter_tuple hL
        exact ⟨_, rfl, h⟩
      · wp_walk using AutoSeq1.wpAny_loadPart' hl, wpAny_pyIter_tuple hL
        exact ⟨_, rfl, h⟩
    · wp_walk using AutoSeq1.wpAny_loadPart' hl, wpAny_pyIter_tuple hL
      exact ⟨_, rfl, h⟩
theorem call_enumT {prog : Program} {w : World} {A : Around} {E : Value → Shared → Prop} {s : Shared} {l : Addr} {items : Array Value} {Q : Value → Shared → Prop} (hL : s.heap.IsTuple l items)
    (h : ∀ h', IsEnum h' (s.heap.objs.size + 1) s.heap.objs.size 0 .none → h'.IsTupleIter s.heap.objs.size l 0 → (∀ b o, s.heap.get? b = some o → h'.get? b = some o) → Q (.ref (s.heap.objs.size + 1)) { s with heap := h' }) :
    wpAny (model prog w) A (call (.type "enumerate") [.ref l]) Q E s := by
  obtain ⟨⟨c, dct, dt, sl⟩, hl, hc, n, hd⟩ := hL
  replace hc : c = .type "tuple" := hc
  replace hd : dt = .seq items n := hd
  subst hc hd
  refine callType_new F.called_enumerate (by decide) (F.typeCall_enumerate_1 _) (F.newCall_enumerate_1 _) (fun obj => F.args_object_init_2 obj _) F.entry_enumerate_new (meets_enumT l items n dct sl) ⟨hl, ?_⟩
  have hz : (s.heap.push (tupIt l)).objs.size = s.heap.objs.size + 1 := Heap.size_push ..
  show _ ∧ _
  rw [hz]
  have he : IsEnum ((s.heap.push (tupIt l)).push (enumAt s.heap.objs.size)) (s.heap.objs.size + 1) s.heap.objs.size 0 .none := by
    have := Heap.get?_push_size (s.heap.push (tupIt l)) (o := enumAt s.heap.objs.size) rfl
    rw [hz] at this
    exact this
  exact ⟨⟨_, he, rfl⟩, h _ he ⟨_, Heap.get?_push_of_some _ (Heap.get?_push_size _ rfl), rfl, rfl⟩ fun b o x => Heap.get?_push_of_some _ (Heap.get?_push_of_some _ x)⟩
/-- the tuple at a, each item in a new pair -/
def IteT (K : PySem.W.Frag) (a : Addr) : It :=
  ⟨fun i H => ∃ (xs : List V) (x : V), SqT K H a xs ∧ xs[i]? = some x, fun i H v H' => ∃ T x, v = .ref T ∧ H T = none ∧ H' = upd H T (.tup [.int (i : Nat), x]) ∧ ∀ xs, SqT K H a xs → xs[i]? = some x, fun i H => ∃ xs : List V, SqT K H a xs ∧ xs.length ≤ i⟩
theorem turn_enumT {P : Program} {w : World} {K : PySem.W.Frag} {elts : List Expr} {kk : Nat} {tpos : Pos} (a e it : Addr) (hai : a ≠ it) (hea : e ≠ a) :
    Turn P w K (.Tuple elts kk tpos) (IteT K a) [e, it] e (fun i h => (∃ old, IsEnum h e it ((i : Nat) : Int) old) ∧ h.IsTupleIter it a i ∧ e ≠ it) where
  mem := by simp
  obj := fun i h st b hb => by
    obtain ⟨⟨old, he⟩, ⟨o, ho, hc, hd⟩, _⟩ := st
    have e' : b = e ∨ b = it := by simpa using hb
    rcases e' with z | z
    · rw [z]; exact ⟨_, he, fun v q => nomatch q⟩
    · rw [z]; exact ⟨o, ho, fun v q => by rw [hd] at q; cases q⟩
  keep := fun i h h' st k => let ⟨⟨old, he⟩, hi, hne⟩ := st; ⟨⟨old, k e (by simp) _ he⟩, hi.at fun o q => k it (by simp) o q, hne⟩
  item := by
    intro X hP hw hK hc i pins s σ H E I hf st hg
    subst hP hw hK
    obtain ⟨⟨old, he⟩, hit, hne⟩ := st
    obtain ⟨xs, x, hq, hx⟩ := hg
    obtain ⟨its, rv, p, hz⟩ := I.tuple hq
    obtain ⟨u, hu, ru⟩ := rv.get hx
    have hel : e < s.heap.objs.size := Heap.lt_size he
    have hil : it < s.heap.objs.size := by obtain ⟨_, q, _⟩ := hit; exact Heap.lt_size q
    have hlt : i < its.toArray.size := by
      have := (List.getElem?_eq_some_iff.mp hu).1
      simpa using this
    refine wpAny_pyNext_enum_itemD (Draws.tuple (A := X.A.in1) (I.ok.hd hc) it a hai its.toArray) he ⟨hit, p⟩ hlt hne (by simp [hne, hea]) fun y h' tk hy ho hst hT hsz hk => ?_
    have hyu : y = u := by
      have : its.toArray[i]? = some y := hy
      simp at this
      rw [hu] at this
      exact (Option.some.inj this).symm
    subst hyu
    refine ⟨_, rfl, wpAny_letOwnedTupleGo_enum (s := { s with heap := h', toks := tk + 1 }) ho fun h'' he' sb => ?_⟩
    have hT2 : h''.get? s.heap.objs.size = some { cls := .type "tuple", data := .seq #[.int i tk, y] } := (sb.2 _ (Nat.ne_of_gt hel)).trans hT
    have new : ObjOk X.prog X.w (upd H s.heap.objs.size (.tup [.int (i : Nat), x])) h'' s.heap.objs.size (.tup [.int (i : Nat), x]) :=
      ⟨by show 2 ≤ sizeLine; decide, [.int i tk, y], .cons ⟨_, rfl⟩ (.cons ru .nil), ⟨_, hT2, rfl, _, rfl⟩⟩
    have I1 : Inv X pins σ (upd H s.heap.objs.size (.tup [.int (i : Nat), x])) { s with heap := h'', toks := tk + 1 } :=
      I.turnedNew (ch := [e, it]) (fun b ob hb q => (sb.2 b (fun z => hb (by simp [z]))).trans (hk b ob (fun z => hb (by simp [z])) (fun z => hb (by simp [z])) q)) hf (Nat.le_refl _) new
    refine ⟨.ref s.heap.objs.size, _, I1, rfl, ⟨_, x, rfl, I.hok.fresh (Nat.le_refl _), rfl, fun ys hy => by rw [I.tuple_inj hy hq]; exact hx⟩, ⟨⟨y, ?_⟩, hst.1.at fun o q => (sb.2 it (Ne.symm hne)).trans q, hne⟩, fun b hb => ?_⟩
    · have e1 : ((i + 1 : Nat) : Int) = (i : Int) + 1 := by omega
      rw [e1]
      exact he'
    · have hb' : b < s.heap.objs.size := by
        have e' : b = e ∨ b = it := by simpa using hb
        rcases e' with z | z
        · rw [z]; exact hel
        · rw [z]; exact hil
      rw [upd_ne (Nat.ne_of_lt hb')]
      exact (hf b hb).1
  done := by
    intro X hP hw hK hc i pins s σ H E I hf st hg
    subst hP hw hK
    obtain ⟨⟨old, he⟩, hit, hne⟩ := st
    obtain ⟨xs, hq, hx⟩ := hg
    obtain ⟨its, rv, p, hz⟩ := I.tuple hq
    obtain ⟨f0, f1, f2, f3, f4, f5⟩ := hf it (by simp)
    have hl := rv.length
    have D : Draws X.prog X.w X.A.in1 it [it, a] i (fun _ _ => True) (fun j h => j = i ∧ h.IsTupleIter it a j ∧ h.IsTuple a its.toArray) :=
      { live := fun _ _ st => let ⟨o, ho, _⟩ := st.2.1; ⟨o, ho⟩
        frame := fun _ _ _ st hk => ⟨st.1, st.2.1.at fun o e => hk it (by simp) o e, st.2.2.at fun o e => hk a (by simp) o e⟩
        item := fun j s Q E hj st _ => absurd st.1 (Nat.ne_of_lt hj)
        done := fun s Q E st hE => wpAny_nextOf_tuple_end (I.ok.hd hc) st.2.1 st.2.2 (by simp; omega) hE }
    exact wpAny_pyNext_enum_endD D he ⟨rfl, hit, p⟩ fun h' eb => ⟨rfl, I.turned (t' := s.toks) (fun b o hb q => eb b o hb q) f0 f1 f3 f4 f5⟩
  self := fun A i s Q E st h => let ⟨⟨_, he⟩, _⟩ := st; wpAny_pyIter_enum he h
def iEnumT (K : PySem.W.Frag) (ta : TA) : TI := fun σ H R => ta σ H fun vs H1 => ∃ a xs, vs = [.ref a] ∧ SqT K H1 a xs ∧ R (IteT K a) H1
theorem pi_enumT {X : Cx} {e : Expr} {ta : TA} {p pos tpos : Pos} {elts : List Expr} {kk : Nat} (hg : Gl X "enumerate") (hm : X.mg "enumerate" = none) (ha : PA X [e] ta) (hs : starEach [e] X.env = [(false, eval e X.env)] := by rfl) :
    PI X (.Tuple elts kk tpos) (.Call (.Name "enumerate" p) [e] [] pos) (iEnumT X.K ta) := by
  refine ⟨fun pins s σ H R I h => ?_⟩
  refine Call_ (ld_blt I hg hm boot_enumerate (PyProof.Rows.callWith_type1 (thn (ha.run pos pins s σ H _ I h) fun us s1 ⟨vs, H1, I1, r1, q1⟩ => ?_) hs rfl))
  obtain ⟨a, xs, ex, hq, q⟩ := q1
  subst ex
  cases r1 with
  | cons r rr =>
    cases rr
    cases r
    obtain ⟨its, rv, p', hz⟩ := I1.tuple hq
    have hal : a < s1.heap.objs.size := IsTup.lt p'
    refine call_enumT p' fun h' he hit hk => wpAny_pyIter_enum he ?_
    have I2 : Inv X pins σ H1 { s1 with heap := h' } := I1.kept (t' := s1.toks) hk
    refine ⟨s1.heap.objs.size + 1, [s1.heap.objs.size + 1, s1.heap.objs.size], _, _, H1, rfl, I2, turn_enumT a (s1.heap.objs.size + 1) s1.heap.objs.size (Nat.ne_of_lt hal) (Nat.ne_of_gt (Nat.lt_succ_of_lt hal)), ⟨⟨.none, he⟩, hit, Nat.succ_ne_self _⟩, fun b hb => ?_, q⟩
    have e' : b = s1.heap.objs.size + 1 ∨ b = s1.heap.objs.size := by simpa using hb
    have hle : s1.heap.objs.size ≤ b := by
      rcases e' with z | z
      · rw [z]; exact Nat.le_add_right _ _
      · rw [z]; exact Nat.le_refl _
    exact I1.fpOk hle (I1.hok.fresh hle)
theorem walk_enumT {K : PySem.W.Frag} {a : Addr} {xs : List V} : Walk (IteT K a) xs.length (fun H => SqT K H a xs) (YPair (fun i => some (.int (i : Nat))) (fun i => xs[i]?)) := by
  refine ⟨fun i _ hi q => ⟨xs, xs[i], q, by simp [hi]⟩, fun _ q => ⟨xs, q, Nat.le_refl _⟩, fun i H v H' _ q y => ?_⟩
  obtain ⟨T, x, h1, h2, h3, h4⟩ := y
  exact ⟨T, .int (i : Nat), x, h1, h2, h3, rfl, h4 xs q⟩
/-! ### trees of a grammar -/
theorem GramIn.go {K : PySem.W.Frag} {Y Z : Hp} {a gd : Addr} {rs : List SRow} {ms : List MRow} {ru : List RRow} {roof : Nat} {b : List V} (h : GramIn K Y a gd rs ms ru roof) (hb : Y a = some (.lst b)) (t : But a Y Z) : GramIn K Z a gd rs ms ru roof := by
  obtain ⟨ls, lm, lr, of, kvs, gs, by_, byk, h1, h2, h3, h4⟩ := h.ex
  refine ⟨ls, lm, lr, of, kvs, gs.go hb t, by_, byk, h1, h2, t _ _ (fun z => by rw [z, hb] at h3; cases h3) h3, fun m hm => ?_⟩
  obtain ⟨v, h5, h6⟩ := h4 m hm
  exact ⟨v, h5, dp_imm (KeepT.but hb t) h6 (m_imm m)⟩
theorem SzAt.but {Y Z : Hp} {a dz : Addr} {kvs : List (Key × V)} {S : List Nat → Option Nat} {names : List (List Nat)} {b : List V} (h : SzAt Y dz kvs S names) (hb : Y a = some (.lst b)) (t : But a Y Z) : SzAt Z dz kvs S names :=
  ⟨t _ _ (fun z => by have := h.d; rw [z, hb] at this; cases this) h.d, h.v, h.ks⟩
mutual
/-- a tree of the sort: so deep, of so many nodes -/
inductive Gt (ms : List MRow) : List Nat → Nat → Nat → PyData → Prop
  | mk {mr : MRow} {i : Int} {n k : Nat} {ds : List PyData} (hm : mr ∈ ms) (h0 : 0 ≤ i) (h1 : i < 1000000) (h : GtAll ms mr.pt n k ds) : Gt ms mr.so (n + 1) (k + 1) (.tuple [strD mr.nm, .int i, .tuple ds])
inductive GtAll (ms : List MRow) : List (List Nat) → Nat → Nat → List PyData → Prop
  | nil (n : Nat) : GtAll ms [] n 0 []
  | cons {k : List Nat} {ks : List (List Nat)} {n j j' : Nat} {d : PyData} {ds : List PyData} (h : Gt ms k n j d) (a : GtAll ms ks n j' ds) : GtAll ms (k :: ks) n (j + j') (d :: ds)
end
theorem GtAll.snoc {ms : List MRow} : ∀ {ks : List (List Nat)} {n j : Nat} {ds : List PyData}, GtAll ms ks n j ds → ∀ {k : List Nat} {j' : Nat} {d : PyData}, Gt ms k n j' d → GtAll ms (ks ++ [k]) n (j + j') (ds ++ [d])
  | _, _, _, _, .nil n, k, j', d, h => by
    rw [Nat.zero_add]
    exact (show GtAll ms [k] n (j' + 0) [d] from .cons h (.nil n))
  | _, _, _, _, .cons h0 a, k, j', d, h => by
    rw [Nat.add_assoc]
    exact .cons h0 (GtAll.snoc a h)
mutual
theorem Gt.imm {ms : List MRow} : ∀ {k : List Nat} {n j : Nat} {d : PyData}, Gt ms k n j d → Thr.imm d = true
  | _, _, _, _, .mk (ds := ds) _ _ _ h => by
    show (true && (true && (immAll ds && true))) = true
    rw [GtAll.imm h]
    rfl
theorem GtAll.imm {ms : List MRow} : ∀ {ks : List (List Nat)} {n j : Nat} {ds : List PyData}, GtAll ms ks n j ds → immAll ds = true
  | _, _, _, _, .nil _ => rfl
  | _, _, _, _, .cons (d := d) (ds := ds) h a => by
    show (Thr.imm d && immAll ds) = true
    rw [Gt.imm h, GtAll.imm a]
    rfl
end
mutual
theorem Gt.deeper {ms : List MRow} : ∀ {k : List Nat} {n j : Nat} {d : PyData}, Gt ms k n j d → Gt ms k (n + 1) j d
  | _, _, _, _, .mk hm h0 h1 h => .mk hm h0 h1 (GtAll.deeper h)
theorem GtAll.deeper {ms : List MRow} : ∀ {ks : List (List Nat)} {n j : Nat} {ds : List PyData}, GtAll ms ks n j ds → GtAll ms ks (n + 1) j ds
  | _, _, _, _, .nil n => .nil (n + 1)
  | _, _, _, _, .cons h a => .cons (Gt.deeper h) (GtAll.deeper a)
end
/-! how far down a draw may go -/
def lessS (S : List Nat → Option Nat) (n : Nat) (k : List Nat) : Bool := match S k with
  | some m => decide (m < n)
  | none => false
def rk (S : List Nat → Option Nat) (names : List (List Nat)) (n : Nat) : Nat := (names.filter (lessS S n)).length
theorem lessS_iff {S : List Nat → Option Nat} {n : Nat} {k : List Nat} : lessS S n k = true ↔ ∃ m, S k = some m ∧ m < n := by
  unfold lessS
  cases S k with
  | none => exact ⟨fun h => (by cases h), fun ⟨m, h, _⟩ => (by cases h)⟩
  | some m => exact ⟨fun h => ⟨m, rfl, of_decide_eq_true h⟩, fun ⟨m', e, h⟩ => by cases e; exact decide_eq_true h⟩
theorem rk_lt {S : List Nat → Option Nat} {names : List (List Nat)} {k : List Nat} {m n : Nat} (hk : k ∈ names) (e : S k = some m) (h : m < n) : rk S names m < rk S names n := by
  unfold rk
  refine filter_lt (fun x hx => ?_) hk (lessS_iff.mpr ⟨m, e, h⟩) ?_
  · obtain ⟨j, h1, h2⟩ := lessS_iff.mp hx
    exact lessS_iff.mpr ⟨j, h1, by omega⟩
  · cases c : lessS S m k with
    | false => rfl
    | true =>
      obtain ⟨j, h1, h2⟩ := lessS_iff.mp c
      rw [e] at h1
      cases h1
      omega
theorem rk_le {S : List Nat → Option Nat} {names : List (List Nat)} {k : List Nat} {n : Nat} (hk : k ∈ names) (e : S k = some n) : rk S names n < names.length := by
  have := filter_lt (l := names) (p := lessS S n) (q := fun _ => true) (fun _ _ => rfl) hk rfl (by
    cases c : lessS S n k with
    | false => rfl
    | true =>
      obtain ⟨j, h1, h2⟩ := lessS_iff.mp c
      rw [e] at h1
      cases h1
      omega)
  rw [show names.filter (fun _ => true) = names from List.filter_eq_self.mpr (fun _ _ => rfl)] at this
  exact this
def fuel (S : List Nat → Option Nat) (names : List (List Nat)) (deep : Int) (n : Nat) : Nat := if 0 < deep then deep.toNat + 3 else rk S names n
/-- a part of a row of the least size, or of any row where the draw may go down -/
theorem fuel_part {S : List Nat → Option Nat} {names : List (List Nat)} {deep : Int} {n m : Nat} {p : List Nat} (h4 : names.length ≤ 4) (hp : p ∈ names) (e : S p = some m) (h : m < n ∨ 0 < deep) : fuel S names (deep - 1) m < fuel S names deep n := by
  unfold fuel
  have r3 := rk_le hp e
  by_cases hd : 0 < deep
  · rw [if_pos hd]
    split <;> omega
  · rw [if_neg hd, if_neg (by omega)]
    exact rk_lt hp e (h.elim id fun z => absurd z hd)
abbrev s__law_grown : Stmt := top 24
abbrev N__law_grown : List Str := ["_law_box", "_law_g", "_law_sizes_here", "_law_kind", "_law_room", "_law_deep", "_law_some", "_law_parts", "_law_row", "_law_size", "_law_left", "_law_at", "_law_part", "_law_more"]
abbrev P__law_grown : List Str := ["_law_box", "_law_g", "_law_sizes_here", "_law_kind", "_law_room", "_law_deep"]
theorem sc__law_grown : FnScope N__law_grown P__law_grown (defScope s__law_grown) := ⟨rfl, rfl, rfl, by decide +kernel, rfl, by decide +kernel, by decide +kernel⟩
structure Gw (mg : Str → Option Value) : Prop where
  all : mg "all" = none
  sum : mg "sum" = none
  max : mg "max" = none
  len : mg "len" = none
  enumerate : mg "enumerate" = none
  tuple : mg "tuple" = none
def spGrown (K : PySem.W.Frag) (n : Nat) : Sp := fun vs H Q _ => ∃ (a gd dz : Addr) (rs : List SRow) (ms : List MRow) (ru : List RRow) (roof : Nat) (skv : List (Key × V)) (S : List Nat → Option Nat) (kind : List Nat) (nk room : Nat) (deep : Int) (m : Nat) (b : List V), vs = [.ref a, .ref gd, .ref dz, .str (SX.S kind), .int ((room : Nat) : Int), .int deep] ∧
  GramIn K H a gd rs ms ru roof ∧ GramOk rs ms ru roof ∧ SzAt H dz skv S (rs.map SRow.nm) ∧ SzOk ms S ∧ S kind = some nk ∧ fuel S (rs.map SRow.nm) deep nk < n ∧ room ≤ 1000 ∧ H a = some (.lst b) ∧ BoxL m b ∧ m + 9 * max room nk < 900000 ∧
  ∀ (H' : Hp) (v : V) (d : PyData) (k : Nat) (b' : List V), But a H H' → H' a = some (.lst b') → BoxL (m + 9 * max room nk) b' → Dp K H' v d → Gt ms kind n k d → k ≤ max room nk → Q v H'
/-- a row that may be taken -/
def Opt (K : PySem.W.Frag) (X : Hp) (S : List Nat → Option Nat) (ms : List MRow) (kind : List Nat) (nk room : Nat) (deep : Int) (v : V) : Prop := ∃ (q : Addr) (rowv : V) (mr : MRow), v = .ref q ∧ SqT K X q [rowv, .int ((max room (1 + sumS S mr.pt) - (1 + sumS S mr.pt) : Nat) : Int)] ∧ Dp K X rowv mr.d ∧ mr ∈ ms ∧ mr.so = kind ∧ allIn S mr.pt = true ∧ (1 + sumS S mr.pt = nk ∨ (1 + sumS S mr.pt ≤ room ∧ 0 < deep))
theorem Opt.keep {K : PySem.W.Frag} {X Y : Hp} {S : List Nat → Option Nat} {ms : List MRow} {kind : List Nat} {nk room : Nat} {deep : Int} {v : V} (k : KeepT X Y) (h : Opt K X S ms kind nk room deep v) : Opt K Y S ms kind nk room deep v := by
  obtain ⟨q, rowv, mr, h1, h2, h3, h4⟩ := h
  exact ⟨q, rowv, mr, h1, k.seqT h2, dp_imm k h3 mr.imm, h4⟩
theorem ifs_or_and {t1 t2 t3 : TT} {A B : TS} {D : Ends} {σ : L2.St} {H : Hp} {c1 c2 c3 : Bool} (h1 : ∀ Q : Bool → Hp → Prop, (∀ c, c = c1 → Q c H) → t1 σ H Q) (h2 : ∀ Q : Bool → Hp → Prop, (∀ c, c = c2 → Q c H) → t2 σ H Q) (h3 : ∀ Q : Bool → Hp → Prop, (∀ c, c = c3 → Q c H) → t3 σ H Q)
    (hA : (c1 || (c2 && c3)) = true → A D σ H) (hB : (c1 || (c2 && c3)) = false → B D σ H) : tIfS (tOr t1 (tAnd t2 t3)) A B D σ H := by
  refine h1 _ ?_
  intro c hc
  rw [hc]
  cases c1 with
  | true => exact iteT (iteT (hA rfl))
  | false =>
    show t2 σ H _
    refine h2 _ ?_
    intro c hc
    rw [hc]
    cases c2 with
    | false => exact hB rfl
    | true =>
      show t3 σ H _
      refine h3 _ ?_
      intro c hc
      rw [hc]
      cases c3 with
      | true => exact iteT (hA rfl)
      | false => exact hB rfl
theorem rep_mem {α : Type} {x v : α} {k : Nat} (h : v ∈ (List.replicate k [x]).flatten) : v = x := by
  obtain ⟨l, h1, h2⟩ := List.mem_flatten.mp h
  rw [List.eq_of_mem_replicate h1] at h2
  exact List.mem_singleton.mp h2
theorem rep_len {α : Type} {x : α} {k : Nat} : (List.replicate k [x]).flatten.length = k := by simp
theorem max_cast (i j : Nat) : (if ((j : Nat) : Int) > ((i : Nat) : Int) then ((j : Nat) : Int) else ((i : Nat) : Int)) = ((max i j : Nat) : Int) := by
  split <;> omega
theorem GtAll.len {ms : List MRow} : ∀ {ks : List (List Nat)} {n j : Nat} {ds : List PyData}, GtAll ms ks n j ds → ds.length = ks.length
  | _, _, _, _, .nil _ => rfl
  | _, _, _, _, .cons _ a => by rw [List.length_cons, List.length_cons, GtAll.len a]
section
variable {P : Program} {w : World} {K : PySem.W.Frag} {mg : Str → Option Value} {base : Heap}
theorem ok_grown (T : Gw mg) (c_law_take : C8.Cal P w K mg base 1 "_law_take" spTake []) (c_law_one_of : C8.Cal P w K mg base 2 "_law_one_of" (spOneOf K) []) (c_law_number : C8.Cal P w K mg base 2 "_law_number" spNumber [])
    (D : Dd K mg "_law_grown" s__law_grown P__law_grown) (n : Nat) (c_law_grown : C8.Cal P w K mg base (n + 3) "_law_grown" (spGrown K n) []) : C8.Cal P w K mg base (n + 4) "_law_grown" (spGrown K (n + 1)) [] := by
  refine D.cal sc__law_grown (fun vs H Q E h => ?_) (fun f cdv A outer s H vs Q E hr h => ?_)
  · obtain ⟨a, gd, dz, rs, ms, ru, roof, skv, S, kind, nk, room, deep, m, b, rfl, _⟩ := h
    rfl
  · obtain ⟨a, gd, dz, rs, ms, ru, roof, skv, S, kind, nk, room, deep, m, b, rfl, gi, go, sz, szo, hnk, hfu, hroom, ha, hB, hm, q⟩ := h
    refine ⟨_, (C8.pss_cut (ps_par rfl sc__law_grown.nd (i := 6) (j := 7) rfl rfl (by decide) rfl rfl (pa_cons (pe_lst pa_nil) (pa_cons (pe_lst pa_nil) pa_nil)) (by rfl))
        (C8.pss_cut (ps_for PassesOwn.never rfl (pi_list (pe_dget (hu_of hr) (pv 1) pe_str (fun _ _ => rfl))) (pg_name (i := 8) sc__law_grown.nd rfl (Or.inl rfl))
          (pss_one (ps_if (PW.pt (pw_and (pt_cmpR op_eq (pe_ix (r := rIxT K) ix_tup (pv 8) pe_int (fun _ _ => rfl)) (pv 3) (nomark _)) (pw_and1 (pt_val (pe_callB (cr_all rfl) (by rfl) T.all (by decide +kernel) (pa_cons (pe_lc (own := [("_law_part", 12)]) (by exact rfl) sc__law_grown.nd (pi_tup (pe_ix (r := rIxT K) ix_tup (pv 8) pe_int (fun _ _ => rfl))) (blkOk_by (own := [("_law_part", 12)]) (N := N__law_grown) (sc := defScope s__law_grown) (by decide +kernel)) (fun _ _ _ _ _ => (pg_name (i := 12) sc__law_grown.nd rfl (Or.inl rfl))) (fun _ _ _ _ _ => pts_nil) (fun _ _ _ _ _ => (pe_cmp (pc_din (hu_of hr) (pv 12) (pv 2)) (by with_unfolding_all rfl)))) pa_nil))))))
          (pss_cons (ps_set (i := 9) sc__law_grown.nd rfl (Or.inl rfl) (pe_op op_add pe_int (pe_callB (cr_sum rfl) (by rfl) T.sum (by decide +kernel) (pa_cons (pe_lc (own := [("_law_part", 12)]) (by exact rfl) sc__law_grown.nd (pi_tup (pe_ix (r := rIxT K) ix_tup (pv 8) pe_int (fun _ _ => rfl))) (blkOk_by (own := [("_law_part", 12)]) (N := N__law_grown) (sc := defScope s__law_grown) (by decide +kernel)) (fun _ _ _ _ _ => (pg_name (i := 12) sc__law_grown.nd rfl (Or.inl rfl))) (fun _ _ _ _ _ => pts_nil) (fun _ _ _ _ _ => (pe_dget (hu_of hr) (pv 2) (pv 12) (fun _ _ => rfl)))) pa_nil))))
        (pss_one (ps_if (PW.pt (pw_or (pt_cmpR op_eq (pv 9) (pe_dget (hu_of hr) (pv 2) (pv 3) (fun _ _ => rfl)) (nomark _)) (pw_or1 (PW.pt (pw_and (pt_cmpR op_le (pv 9) (pv 4) (nomark _)) (pw_and1 (pt_cmpR op_gt (pv 5) pe_int (nomark _))))))))
          (pss_one (ps_set (i := 6) sc__law_grown.nd rfl (Or.inl rfl) (pe_op op_cat (pv 6) (pe_op op_rep (pe_lst (pa_cons (pe_tup (pa_cons (pv 8) (pa_cons (pe_op op_sub (pe_callB (call_max2 rfl) (by rfl) T.max (by decide +kernel) (pa_cons (pv 4) (pa_cons (pv 9) pa_nil))) (pv 9)) pa_nil))) pa_nil)) (pe_op op_add pe_int (pe_callB call_len_seq (by rfl) T.len PySem.boot_len (pa_cons (pe_ix (r := rIxT K) ix_tup (pv 8) pe_int (fun _ _ => rfl)) pa_nil)))))))
          pss_nil)))
          pss_nil)))
        (C8.pss_cut (ps_asg (C8.pe_c c_law_one_of hr (by omega) (by rfl) (pa_cons (pv 0) (pa_cons (pv 6) pa_nil))) (pg_tup rfl (pgs_cons (pg_name (i := 8) sc__law_grown.nd rfl (Or.inl rfl)) (pgs_cons (pg_name (i := 10) sc__law_grown.nd rfl (Or.inl rfl)) pgs_nil))))
        (C8.pss_cut (ps_for PassesOwn.never rfl (pi_enumT (by rfl) T.enumerate (pa_cons (pe_ix (r := rIxT K) ix_tup (pv 8) pe_int (fun _ _ => rfl)) pa_nil)) (pg_tup rfl (pgs_cons (pg_name (i := 11) sc__law_grown.nd rfl (Or.inl rfl)) (pgs_cons (pg_name (i := 12) sc__law_grown.nd rfl (Or.inl rfl)) pgs_nil)))
          (C8.pss_cut (ps_set (i := 13) sc__law_grown.nd rfl (Or.inl rfl) (pe_ifExp (pt_cmpR op_eq (pe_op op_add (pv 11) pe_int) (pe_callB call_len_seq (by rfl) T.len PySem.boot_len (pa_cons (pe_ix (r := rIxT K) ix_tup (pv 8) pe_int (fun _ _ => rfl)) pa_nil)) (nomark _)) (pv 10) (C8.pe_c c_law_take hr (by omega) (by rfl) (pa_cons (pv 0) (pa_cons (pe_op op_add (pv 10) pe_int) pa_nil)))))
        (C8.pss_cut (ps_set (i := 10) sc__law_grown.nd rfl (Or.inl rfl) (pe_op op_sub (pv 10) (pv 13)))
        (pss_one (ps_expr (pe_bm PySem.F.plainAttrs_list PySem.F.slot_list_append PySem.F.type_list_append mt_append (pv 7) (pa_cons (C8.pe_c c_law_grown hr (by omega) (by rfl) (pa_cons (pv 0) (pa_cons (pv 1) (pa_cons (pv 2) (pa_cons (pv 12) (pa_cons (pe_op op_add (pe_dget (hu_of hr) (pv 2) (pv 12) (fun _ _ => rfl)) (pv 13)) (pa_cons (pe_op op_sub (pv 5) pe_int) pa_nil))))))) pa_nil)))))))
        (pss_one (ps_ret (pe_tup (pa_cons (pe_ix (r := rIxT K) ix_tup (pv 8) pe_int (fun _ _ => rfl)) (pa_cons (pe_ix ix_list (pe_lst (pa_cons pe_int (pa_cons pe_int (pa_cons (C8.pe_c c_law_number hr (by omega) (by rfl) (pa_cons (pv 0) pa_nil)) pa_nil)))) (C8.pe_c c_law_take hr (by omega) (by rfl) (pa_cons (pv 0) (pa_cons pe_int pa_nil))) (fun _ _ => rfl)) (pa_cons (pe_callTy call_tuple_of (by rfl) T.tuple (by decide +kernel) (pa_cons (pv 7) pa_nil)) pa_nil)))))))))), ?_⟩
    -- two lists
    refine ⟨fun σ X => ∃ l6 l7, σ = [some (.ref a), some (.ref gd), some (.ref dz), some (.str (SX.S kind)), some (.int ((room : Nat) : Int)), some (.int deep), some (.ref l6), some (.ref l7), none, none, none, none, none, none] ∧ Same H X ∧ X l6 = some (.lst []) ∧ X l7 = some (.lst []) ∧ H l7 = none ∧ l7 ≠ a ∧ l6 ≠ a, ?_, ?_⟩
    · refine ⟨by show 0 ≤ sizeLine; decide, fun l6 n6 => ⟨by show 0 ≤ sizeLine; decide, fun l7 n7 => ⟨_, _, rfl, l6, l7, rfl, (same_upd n6).trans (same_upd n7), same_upd n7 _ _ upd_same, upd_same, (same_upd n6).free n7, fun z => ?_, fun z => ?_⟩⟩⟩
      · rw [z, same_upd n6 _ _ ha] at n7
        cases n7
      · rw [z, ha] at n6
        cases n6
    rintro σ X0 ⟨l60, l7, rfl, s0, hl60, hl70, n7, n7a, n60a⟩
    obtain ⟨ls, lm, lr, of, gkv, gs, gby⟩ := gi.ex
    obtain ⟨mv, hlm, hmv⟩ := gs.hlm
    have lmv := dpAll_len hmv
    rw [List.length_map] at lmv
    have hm8 := go.m8
    -- the rows that may be taken
    refine ⟨fun σ X => ∃ (y8 y9 y12 : Option V) (l6 : Addr) (ov : List V), σ = [some (.ref a), some (.ref gd), some (.ref dz), some (.str (SX.S kind)), some (.int ((room : Nat) : Int)), some (.int deep), some (.ref l6), some (.ref l7), y8, y9, none, none, y12, none] ∧ Same X0 X ∧ X l6 = some (.lst ov) ∧ l6 ≠ a ∧ ov ≠ [] ∧ ov.length ≤ 24 ∧ ∀ v ∈ ov, Opt K X S ms kind nk room deep v, ?_, ?_⟩
    · refine ⟨_, rfl, gd, .ref lm, rfl, by have h := DGet.k (k := Sum.inr "makings") (s0 _ _ gs.hgd); rw [gs.mak] at h; exact h, lm, rfl, ⟨_, SqL.of (s0 _ _ hlm)⟩, for_list (K := K) (a := lm) (xs := mv) (fun j σ X => ∃ (y8 y9 y12 : Option V) (l6 : Addr) (ov : List V), σ = [some (.ref a), some (.ref gd), some (.ref dz), some (.str (SX.S kind)), some (.int ((room : Nat) : Int)), some (.int deep), some (.ref l6), some (.ref l7), y8, y9, none, none, y12, none] ∧ Same X0 X ∧ X l6 = some (.lst ov) ∧ l6 ≠ a ∧ ov.length ≤ 3 * j ∧ (∀ v ∈ ov, Opt K X S ms kind nk room deep v) ∧ (∀ mr ∈ ms.take j, mr.so = kind → allIn S mr.pt = true → nk = 1 + sumS S mr.pt → ov ≠ []))
        ⟨none, none, none, l60, [], rfl, Same.refl _, hl60, n60a, Nat.le_refl _, (fun v h => nomatch h), (fun mr h => nomatch h)⟩ (fun j σ X _ ⟨_, _, _, _, _, _, h, _⟩ => SqL.of (h _ _ (s0 _ _ hlm))) ?_ ?_⟩
      · rintro j x σ X hx ⟨y8, y9, y12, l6, ov, rfl, sX, hl6, n6a, hol, hopt, hbest⟩
        obtain ⟨dd, hdd, hxd⟩ := dpAll_at hmv hx
        rw [List.getElem?_map] at hdd
        obtain ⟨mr, hmr, rfl⟩ : ∃ mr, ms[j]? = some mr ∧ dd = mr.d := by
          cases h : ms[j]? with
          | none => rw [h] at hdd; cases hdd
          | some e => rw [h] at hdd; exact ⟨e, rfl, (Option.some.inj hdd).symm⟩
        have hj : j < ms.length := (List.getElem?_eq_some_iff.mp hmr).1
        have hmm := List.mem_of_getElem? hmr
        have tk : ms.take (j + 1) = ms.take j ++ [mr] := by rw [List.take_add_one, hmr]; rfl
        have mok := go.ok mr hmm
        have p2 := mok.p2
        have s0X := s0.trans sX
        have hxX := dp_same s0X hxd
        obtain ⟨q0, t, rfl, hq, ht⟩ := m_at hxX
        have szX := sz.same s0X
        have skip : ∀ {Z : Hp}, Same X Z → (mr.so = kind → allIn S mr.pt = true → nk = 1 + sumS S mr.pt → False) → ∀ (z9 z12 : Option V), ∃ (y8 y9 y12 : Option V) (l6' : Addr) (ov : List V), [some (.ref a), some (.ref gd), some (.ref dz), some (.str (SX.S kind)), some (.int ((room : Nat) : Int)), some (.int deep), some (.ref l6), some (.ref l7), some (.ref q0), z9, none, none, z12, none] = [some (.ref a), some (.ref gd), some (.ref dz), some (.str (SX.S kind)), some (.int ((room : Nat) : Int)), some (.int deep), some (.ref l6'), some (.ref l7), y8, y9, none, none, y12, none] ∧ Same X0 Z ∧ Z l6' = some (.lst ov) ∧ l6' ≠ a ∧ ov.length ≤ 3 * (j + 1) ∧ (∀ v ∈ ov, Opt K Z S ms kind nk room deep v) ∧ (∀ mr ∈ ms.take (j + 1), mr.so = kind → allIn S mr.pt = true → nk = 1 + sumS S mr.pt → ov ≠ []) := fun {Z} sZ hno z9 z12 =>
          ⟨_, _, _, l6, ov, rfl, sX.trans sZ, sZ _ _ hl6, n6a, by omega, fun v hv => (hopt v hv).keep (KeepT.of sZ), fun mr' h' e1 e2 e3 => by
            rw [tk] at h'
            rcases List.mem_append.mp h' with h' | h'
            · exact hbest mr' h' e1 e2 e3
            · rw [List.mem_singleton.mp h'] at e1 e2 e3
              exact (hno e1 e2 e3).elim⟩
        refine ⟨_, rfl, q0, _, 1, .str (SX.S mr.so), rfl, rfl, hq, atI_nat (j := 1) rfl, _, rfl, rfl, _, rfl, ?_⟩
        by_cases hk : mr.so = kind
        · refine ifT (decide_eq_true (by rw [hk])) ?_
          refine ⟨_, rfl, q0, _, 2, .ref t, rfl, rfl, hq, atI_nat (j := 2) rfl, t, rfl, ⟨_, ht⟩, fun D nD => ?_⟩
          refine lc_tup (K := K) (a := t) (xs := nmV mr.pt) (fun i U => Same X U ∧ U D = some (.lst ((mr.pt.take i).map fun p => V.bl (S p).isSome))) ⟨same_upd nD, upd_same⟩ (fun i U _ h => Same.seqT h.1 ht) ?_ ?_
          · rintro i v U hv ⟨sU, hD⟩
            obtain ⟨p, hp, rfl⟩ := nmV_get hv
            have hi : i < mr.pt.length := (List.getElem?_eq_some_iff.mp hp).1
            refine ⟨rfl, yesT ?_⟩
            refine ⟨_, rfl, _, rfl, dz, _, rfl, DGet.k (k := kS p) (sU _ _ szX.d), _, hD, small1000 (by rw [List.length_map, List.length_take]; omega), Same.at_ sU nD, ?_⟩
            rw [sz.v p, List.take_add_one, hp, List.map_append]
            rw [show ((S p).map fun n => V.int ((n : Nat) : Int)).isSome = (S p).isSome by cases S p <;> rfl]
            exact upd_same
          · rintro U ⟨sU, hD⟩
            rw [nmV_len, List.take_length] at hD
            refine ⟨D, mr.pt.map fun p => (S p).isSome, rfl, SqL.of (by rw [List.map_map]; exact hD), _, rfl, ?_⟩
            rw [all_cast]
            cases hall : allIn S mr.pt with
            | false => exact skip sU (fun _ e => by rw [hall] at e; cases e) _ _
            | true =>
              have ht2 := Same.seqT sU ht
              have hq2 := Same.seqT sU hq
              have szU := szX.same sU
              refine ⟨_, rfl, q0, _, 2, .ref t, rfl, rfl, hq2, atI_nat (j := 2) rfl, t, rfl, ⟨_, ht2⟩, fun D2 nD2 => ?_⟩
              refine lc_tup (K := K) (a := t) (xs := nmV mr.pt) (fun i W => Same U W ∧ W D2 = some (.lst ((mr.pt.take i).map fun p => V.int (((S p).getD 0 : Nat) : Int)))) ⟨same_upd nD2, upd_same⟩ (fun i W _ h => Same.seqT h.1 ht2) ?_ ?_
              · rintro i v W hv ⟨sW, hD2⟩
                obtain ⟨p, hp, rfl⟩ := nmV_get hv
                have hi : i < mr.pt.length := (List.getElem?_eq_some_iff.mp hp).1
                obtain ⟨n', hn'⟩ : ∃ n', S p = some n' := by
                  have := List.all_eq_true.mp hall p (List.mem_of_getElem? hp)
                  cases e : S p with
                  | none => rw [e] at this; cases this
                  | some n' => exact ⟨n', rfl⟩
                refine ⟨rfl, yesT ?_⟩
                refine ⟨_, rfl, _, rfl, dz, .int ((n' : Nat) : Int), rfl, by have h := DGet.k (k := kS p) (sW _ _ szU.d); rw [sz.v p, hn'] at h; exact h, _, hD2, small1000 (by rw [List.length_map, List.length_take]; omega), Same.at_ sW nD2, ?_⟩
                rw [List.take_add_one, hp, List.map_append]
                show _ = some (HO.lst (_ ++ [V.int (((S p).getD 0 : Nat) : Int)]))
                rw [hn']
                exact upd_same
              · rintro W ⟨sW, hD2⟩
                rw [nmV_len, List.take_length] at hD2
                refine ⟨D2, mr.pt.map fun p => (((S p).getD 0 : Nat) : Int), rfl, SqL.of (by rw [List.map_map]; exact hD2), _, _, rfl, rfl, ?_⟩
                rw [sum_cast]
                have szW := szU.same sW
                have sXW := sU.trans sW
                have esz : (fun i j => V.int (i + j)) (1 : Int) (((mr.pt.map fun p => (S p).getD 0).sum : Nat) : Int) = V.int ((1 + sumS S mr.pt : Nat) : Int) := by
                  show V.int (1 + _) = V.int _
                  congr 1
                rw [esz]
                simp only [gName]
                refine ifs_or_and (c1 := decide (1 + sumS S mr.pt = nk)) (c2 := decide (1 + sumS S mr.pt ≤ room)) (c3 := decide (0 < deep)) (fun Q hQ => ?_) (fun Q hQ => ?_) (fun Q hQ => ?_) (fun hc => ?_) (fun hc => ?_)
                · refine ⟨_, rfl, _, rfl, _, rfl, dz, .int ((nk : Nat) : Int), rfl, by have h := DGet.k (k := kS kind) szW.d; rw [sz.v kind, hnk] at h; exact h, rfl, _, rfl, hQ _ ?_⟩
                  rw [decide_eq_decide]
                  exact ⟨fun z => by have := V.int.inj z; omega, fun z => by rw [z]⟩
                · refine ⟨_, rfl, _, rfl, _, _, rfl, rfl, _, rfl, hQ _ ?_⟩
                  rw [decide_eq_decide]
                  omega
                · exact ⟨_, rfl, _, _, rfl, rfl, _, rfl, hQ _ rfl⟩
                · have hcond : 1 + sumS S mr.pt = nk ∨ (1 + sumS S mr.pt ≤ room ∧ 0 < deep) := by
                    rcases Bool.or_eq_true_iff.mp hc with h | h
                    · exact .inl (of_decide_eq_true h)
                    · obtain ⟨h1, h2⟩ := Bool.and_eq_true_iff.mp h
                      exact .inr ⟨of_decide_eq_true h1, of_decide_eq_true h2⟩
                  have hqW := Same.seqT sXW hq
                  have htW := Same.seqT sXW ht
                  refine ⟨_, rfl, _, rfl, _, rfl, _, rfl, _, _, rfl, _, rfl, _, _, rfl, rfl, by show 2 ≤ sizeLine; decide, fun p3 n3 => ⟨by show 1 ≤ sizeLine; decide, fun l4 n4 => ?_⟩⟩
                  have elf : (fun i j => V.int (i - j)) (if ((1 + sumS S mr.pt : Nat) : Int) > ((room : Nat) : Int) then ((1 + sumS S mr.pt : Nat) : Int) else ((room : Nat) : Int)) ((1 + sumS S mr.pt : Nat) : Int) = V.int ((max room (1 + sumS S mr.pt) - (1 + sumS S mr.pt) : Nat) : Int) := by
                    rw [max_cast]
                    show V.int (_ - _) = V.int _
                    congr 1
                    omega
                  rw [elf] at n4 ⊢
                  have s3 := same_upd (o := .tup [.ref q0, .int ((max room (1 + sumS S mr.pt) - (1 + sumS S mr.pt) : Nat) : Int)]) n3
                  have s4 := same_upd (o := .lst [.ref p3]) n4
                  refine ⟨_, rfl, q0, _, 2, .ref t, rfl, rfl, Same.seqT (s3.trans s4) hqW, atI_nat (j := 2) rfl, t, nmV mr.pt, rfl, .inr (Same.seqT (s3.trans s4) htW), _, _, rfl, rfl, l4, _, [.ref p3], rfl, rfl, upd_same, by omega, by rw [nmV_len]; omega, ?_, fun p5 n5 => ?_⟩
                  · refine Nat.le_trans (show _ ≤ 100 from ?_) (by decide)
                    rw [nmV_len]
                    show 1 * _ ≤ 100
                    omega
                  have s5 := same_upd (o := .lst (List.replicate (Int.toNat (1 + (((nmV mr.pt).length : Nat) : Int))) [.ref p3]).flatten) n5
                  have sA := (sXW.trans (s3.trans s4)).trans s5
                  refine ⟨l6, p5, ov, _, rfl, rfl, sA _ _ hl6, upd_same, ?_, fun p6 n6 => ?_⟩
                  · refine Nat.le_trans (show _ ≤ 1000 from ?_) (by decide)
                    rw [rep_len, nmV_len]
                    omega
                  have s6 := same_upd (o := .lst (ov ++ (List.replicate (Int.toNat (1 + (((nmV mr.pt).length : Nat) : Int))) [.ref p3]).flatten)) n6
                  have sB := sA.trans s6
                  refine ⟨_, _, _, p6, ov ++ (List.replicate (Int.toNat (1 + (((nmV mr.pt).length : Nat) : Int))) [.ref p3]).flatten, rfl, sX.trans sB, upd_same, fun z => ?_, ?_, fun v hv => ?_, fun mr' _ _ _ _ z => ?_⟩
                  · rw [z, sA _ _ (s0X _ _ ha)] at n6
                    cases n6
                  · rw [List.length_append, rep_len, nmV_len]
                    omega
                  · rcases List.mem_append.mp hv with h | h
                    · exact (hopt v h).keep (KeepT.of sB)
                    · rw [rep_mem h]
                      exact ⟨p3, .ref q0, mr, rfl, SqT.of ((s4.trans (s5.trans s6)) _ _ upd_same), dp_same sB hxX, hmm, hk, hall, hcond⟩
                  · have := congrArg List.length z
                    rw [List.length_append, rep_len, nmV_len, List.length_nil] at this
                    omega
                · refine skip sXW (fun _ _ e => ?_) _ _
                  rw [decide_eq_true e.symm] at hc
                  cases hc
        · refine ifF (decide_eq_false fun z => hk (SX.S_inj (V.str.inj z))) ?_
          exact skip (Same.refl X) (fun e => absurd e hk) _ _
      · rintro σ X ⟨y8, y9, y12, l6, ov, rfl, sX, hl6, n6a, hol, hopt, hbest⟩
        rw [lmv] at hol
        rw [lmv, List.take_length] at hbest
        obtain ⟨_, _, mr, h1, h2, h3, h4⟩ := szo.some kind nk hnk
        exact ⟨y8, y9, y12, l6, ov, rfl, sX, hl6, n6a, hbest mr h1 h2 h3 h4, by omega, hopt⟩
    rintro σ X1 ⟨y8, y9, y12, l6, ov, rfl, s1, hl6, n6a, hov, hol, hopt⟩
    have s01 := s0.trans s1
    -- one of them
    refine ⟨fun σ X => ∃ (rowv : V) (mr : MRow) (b1 : List V), σ = [some (.ref a), some (.ref gd), some (.ref dz), some (.str (SX.S kind)), some (.int ((room : Nat) : Int)), some (.int deep), some (.ref l6), some (.ref l7), some rowv, y9, some (.int ((max room (1 + sumS S mr.pt) - (1 + sumS S mr.pt) : Nat) : Int)), none, y12, none] ∧ But a H X ∧ X l7 = some (.lst []) ∧ Dp K X rowv mr.d ∧ mr ∈ ms ∧ mr.so = kind ∧ allIn S mr.pt = true ∧ (1 + sumS S mr.pt = nk ∨ (1 + sumS S mr.pt ≤ room ∧ 0 < deep)) ∧ X a = some (.lst b1) ∧ BoxL (m + 1) b1, ?_, ?_⟩
    · refine ⟨_, rfl, _, rfl, a, l6, m, b, ov, rfl, s01 _ _ ha, hB, by omega, SqL.of hl6, n6a, List.length_pos_iff.mpr hov, by omega, fun i v b1 hv hB1 => ?_⟩
      have bt : But a X1 (upd X1 a (.lst b1)) := But.upd (But.refl a X1)
      obtain ⟨q0, rowv, mr, rfl, h1, h2, h3, h4, h5, h6⟩ := (hopt v (List.mem_of_getElem? hv)).keep (KeepT.but (s01 _ _ ha) bt)
      exact ⟨q0, _, rfl, h1, rfl, _, _, rfl, _, _, rfl, rfl, rowv, mr, b1, rfl, (But.of s01).trans bt, bt _ _ n7a (s1 _ _ hl70), h2, h3, h4, h5, h6, upd_same, hB1⟩
    rintro σ X2 ⟨rowv, mr, b2, rfl, bt2, hl7, hrow, hmm, hso, hall, hcond, hb2, hB2⟩
    have mok := go.ok mr hmm
    have p2 := mok.p2
    have nk15 := (szo.some kind nk hnk).2.1
    have hM : max room (1 + sumS S mr.pt) ≤ max room nk := by
      rcases hcond with h | h <;> omega
    obtain ⟨q0, t, rfl, hq, ht⟩ := m_at hrow
    -- its parts
    refine ⟨fun σ Y => ∃ (y10 y11 y12 y13 : Option V) (pv b' : List V) (ds : List PyData) (k u : Nat), σ = [some (.ref a), some (.ref gd), some (.ref dz), some (.str (SX.S kind)), some (.int ((room : Nat) : Int)), some (.int deep), some (.ref l6), some (.ref l7), some (.ref q0), y9, y10, y11, y12, y13] ∧ But a H Y ∧ Dp K Y (.ref q0) mr.d ∧ Y l7 = some (.lst pv) ∧ DpAll K Y pv ds ∧ GtAll ms mr.pt n k ds ∧ k ≤ u ∧ u + 1 ≤ max room (1 + sumS S mr.pt) ∧ Y a = some (.lst b') ∧ BoxL (m + 3 + 9 * u) b', ?_, ?_⟩
    · refine ⟨_, rfl, q0, _, 2, .ref t, rfl, rfl, hq, atI_nat (j := 2) rfl, t, nmV mr.pt, rfl, ht, ?_⟩
      refine for_it walk_enumT (fun j σ Y => ∃ (y11 y12 y13 : Option V) (pv b' : List V) (ds : List PyData) (k u left : Nat), σ = [some (.ref a), some (.ref gd), some (.ref dz), some (.str (SX.S kind)), some (.int ((room : Nat) : Int)), some (.int deep), some (.ref l6), some (.ref l7), some (.ref q0), y9, some (.int ((left : Nat) : Int)), y11, y12, y13] ∧ But a H Y ∧ Dp K Y (.ref q0) mr.d ∧ SqT K Y t (nmV mr.pt) ∧ Y l7 = some (.lst pv) ∧ DpAll K Y pv ds ∧ GtAll ms (mr.pt.take j) n k ds ∧ k ≤ u ∧ u + left + sumS S (mr.pt.drop j) + 1 = max room (1 + sumS S mr.pt) ∧ Y a = some (.lst b') ∧ BoxL (m + 1 + j + 9 * u) b')
        ⟨none, y12, none, [], b2, [], 0, 0, max room (1 + sumS S mr.pt) - (1 + sumS S mr.pt), rfl, bt2, hrow, ht, hl7, .nil, .nil n, Nat.le_refl _, ?_, hb2, hB2⟩ (fun i σ Y _ ⟨_, _, _, _, _, _, _, _, _, _, _, _, h, _⟩ => h) ?_ ?_
      · rw [List.drop_zero]
        omega
      · rintro j v σ Y0 Yz hj ⟨y11, y12', y13, pv, b', ds, k, u, left, rfl, bt, hrowY, htY, hl7Y, hpv, hgt, hku, hu, hb', hB'⟩ ⟨TT, xx, yy, rfl, nT, rfl, ex, ey⟩
        cases ex
        rw [nmV_len] at hj
        obtain ⟨p, hp, rfl⟩ := nmV_get (show (nmV mr.pt)[j]? = some yy from ey)
        obtain ⟨np, hnp⟩ : ∃ np, S p = some np := by
          have := List.all_eq_true.mp hall p (List.mem_of_getElem? hp)
          cases e : S p with
          | none => rw [e] at this; cases this
          | some n' => exact ⟨n', rfl⟩
        have epj : mr.pt[j] = p := by
          rw [List.getElem?_eq_getElem hj] at hp
          exact Option.some.inj hp
        have hdr : sumS S (mr.pt.drop j) = np + sumS S (mr.pt.drop (j + 1)) := by
          rw [List.drop_eq_getElem_cons hj, epj]
          unfold sumS
          rw [List.map_cons, List.sum_cons, hnp]
          rfl
        have hpsum : np ≤ sumS S mr.pt := by
          have := List.take_append_drop j mr.pt
          have e2 : sumS S mr.pt = sumS S (mr.pt.take j) + sumS S (mr.pt.drop j) := by
            unfold sumS
            rw [← List.sum_append, ← List.map_append, this]
          omega
        have hpn : p ∈ rs.map SRow.nm := by
          obtain ⟨r, hr', er⟩ := mok.so p (List.mem_cons_of_mem _ (List.mem_of_getElem? hp))
          exact List.mem_map.mpr ⟨r, hr', er⟩
        have hf := fuel_part (deep := deep) (n := nk) (by rw [List.length_map]; exact go.so.le) hpn hnp (by
          rcases hcond with h | h
          · exact .inl (by omega)
          · exact .inr h.2)
        have sT := same_upd (o := .tup [.int ((j : Nat) : Int), .str (SX.S p)]) nT
        have btY := bt.trans (But.of (a := a) sT)
        have hbY := sT _ _ hb'
        have htY2 := Same.seqT sT htY
        have hrowY2 := dp_same sT hrowY
        have hl7Y2 := sT _ _ hl7Y
        have hpv2 := dpAll_same sT hpv
        have hTT : SqT K (upd Y0 TT (.tup [.int ((j : Nat) : Int), .str (SX.S p)])) TT [.int ((j : Nat) : Int), .str (SX.S p)] := SqT.of upd_same
        obtain ⟨Y, eY⟩ : ∃ Y, Y = upd Y0 TT (.tup [.int ((j : Nat) : Int), .str (SX.S p)]) := ⟨_, rfl⟩
        rw [← eY] at btY hbY htY2 hrowY2 hl7Y2 hpv2 hTT ⊢
        obtain ⟨q1, t1, e1, hqY, ht1⟩ := m_at hrowY2
        cases e1
        refine ⟨TT, _, rfl, hTT, rfl, _, _, rfl, _, _, rfl, rfl, ?_⟩
        -- how much more
        refine ⟨fun σ Z => ∃ (more : Nat) (b4 : List V), σ = [some (.ref a), some (.ref gd), some (.ref dz), some (.str (SX.S kind)), some (.int ((room : Nat) : Int)), some (.int deep), some (.ref l6), some (.ref l7), some (.ref q0), y9, some (.int ((left : Nat) : Int)), some (.int ((j : Nat) : Int)), some (.str (SX.S p)), some (.int ((more : Nat) : Int))] ∧ more ≤ left ∧ But a Y Z ∧ Z a = some (.lst b4) ∧ BoxL (m + 1 + j + 9 * u + 1) b4, ?_, ?_⟩
        · refine ⟨_, rfl, _, _, rfl, rfl, _, rfl, q0, _, 2, .ref t1, rfl, rfl, hqY, atI_nat (j := 2) rfl, t1, nmV mr.pt, rfl, .inr ht1, rfl, _, rfl, ?_⟩
          by_cases hc : V.int (((j : Nat) : Int) + 1) = V.int (((nmV mr.pt).length : Nat) : Int)
          · exact ifT (decide_eq_true hc) ⟨_, rfl, left, b', rfl, Nat.le_refl _, But.refl a Y, hbY, hB'.mono (by omega)⟩
          · refine ifF (decide_eq_false hc) ⟨_, rfl, _, rfl, _, _, rfl, rfl, a, _, _, b', rfl, hbY, hB', by omega, by omega, by omega, fun r b4 r0 r1 hB4 => ?_⟩
            obtain ⟨more, rfl⟩ := Int.eq_ofNat_of_zero_le r0
            exact ⟨more, b4, rfl, by omega, But.upd (But.refl a Y), upd_same, hB4⟩
        rintro σ Z ⟨more, b4, rfl, hml, btZ, hb4, hB4⟩
        have elm : V.int (((left : Nat) : Int) - ((more : Nat) : Int)) = V.int ((left - more : Nat) : Int) := by
          congr 1
          omega
        refine ⟨fun σ Z' => σ = [some (.ref a), some (.ref gd), some (.ref dz), some (.str (SX.S kind)), some (.int ((room : Nat) : Int)), some (.int deep), some (.ref l6), some (.ref l7), some (.ref q0), y9, some (.int ((left - more : Nat) : Int)), some (.int ((j : Nat) : Int)), some (.str (SX.S p)), some (.int ((more : Nat) : Int))] ∧ Z' = Z, ?_, ?_⟩
        · exact ⟨_, rfl, _, rfl, _, _, rfl, rfl, by rw [← elm]; rfl, rfl⟩
        rintro σ Z' ⟨rfl, rfl⟩
        have btHZ := btY.trans btZ
        have hl7Z := btZ _ _ n7a hl7Y2
        have szZ := sz.but ha btHZ
        have lpv := dpAll_len hpv
        have lds : pv.length ≤ 2 := by
          rw [lpv, hgt.len, List.length_take]
          omega
        refine ⟨_, rfl, .inl ⟨rfl, _, SqL.of hl7Z⟩, ?_⟩
        refine ⟨_, rfl, _, rfl, _, rfl, _, rfl, _, rfl, _, rfl, dz, .int ((np : Nat) : Int), rfl, by have h := DGet.k (k := kS p) szZ.d; rw [sz.v p, hnp] at h; exact h, _, rfl, _, _, rfl, rfl, _, rfl, _, _, rfl, rfl, a, gd, dz, rs, ms, ru, roof, skv, S, p, np, np + more, deep - 1, _, b4, rfl, gi.go ha btHZ, go, szZ, szo, hnp, by omega, by omega, hb4, hB4, by omega, fun Z5 v d k' b5 bt5 hb5 hB5 hd hg hk' => ?_⟩
        have hl75 := bt5 _ _ n7a hl7Z
        have k5 : KeepT Y Z5 := KeepT.but hbY (btZ.trans bt5)
        have kk : KeepT Z5 (upd Z5 l7 (.lst (pv ++ [v]))) := KeepT.at_ hl75 lst_no
        refine ⟨l7, pv, v, rfl, rfl, hl75, small1000 (by omega), _, _, _, pv ++ [v], b5, ds ++ [d], k + k', u + (np + more), left - more, rfl, fun c o nc hc => ?_, dp_imm (k5.trans kk) hrowY2 mr.imm, (k5.trans kk).seqT htY2, upd_same, dpAll_appI (dpAll_imm (k5.trans kk) hpv2 hgt.imm) (.cons (dp_imm kk hd hg.imm) .nil), ?_, by omega, by omega, by rw [upd_ne n7a.symm]; exact hb5, hB5.mono (by omega)⟩
        · rw [upd_ne (ne_of_none hc n7)]
          exact (btHZ.trans bt5) c o nc hc
        · rw [List.take_add_one, hp]
          exact hgt.snoc hg
      · rintro σ Y ⟨y11, y12, y13, pv, b', ds, k, u, left, rfl, bt, hrowY, htY, hl7Y, hpv, hgt, hku, hu, hb', hB'⟩
        rw [nmV_len, List.take_length] at hgt
        rw [nmV_len] at hB' hu
        exact ⟨_, _, _, _, pv, b', ds, k, u, rfl, bt, hrowY, hl7Y, hpv, hgt, hku, by omega, hb', hB'.mono (by omega)⟩
    rintro σ Y ⟨y10, y11, y12, y13, pv, b3, ds, k, u, rfl, btY, hrowY, hl7Y, hpv, hgt, hku, hu, hb3, hB3⟩
    -- the node
    obtain ⟨q0', t', e', hqY, _⟩ := m_at hrowY
    cases e'
    refine ⟨_, rfl, q0, _, 0, .str (SX.S mr.nm), rfl, rfl, hqY, atI_nat (j := 0) rfl, ?_⟩
    refine ⟨_, rfl, a, _, b3, rfl, hb3, hB3, by omega, fun Y4 r b4 bt4 hb4 hB4 r0 r1 => ⟨by show 3 ≤ sizeLine; decide, fun l5 n5 => ?_⟩⟩
    have s5 := same_upd (o := .lst [.int 0, .int 0, .int r]) n5
    have n5a : l5 ≠ a := fun z => by
      rw [z, hb4] at n5
      cases n5
    refine ⟨_, rfl, a, 3, _, b4, rfl, s5 _ _ hb4, hB4, by omega, by decide, by decide, fun r4 b5 r40 r41 hB5 => ?_⟩
    have bt5 : But a Y (upd (upd Y4 l5 (.lst [.int 0, .int 0, .int r])) a (.lst b5)) := (bt4.trans (But.of s5)).trans (But.upd (But.refl a _))
    have hb5 : (upd (upd Y4 l5 (.lst [.int 0, .int 0, .int r])) a (.lst b5)) a = some (.lst b5) := upd_same
    have hl5 : (upd (upd Y4 l5 (.lst [.int 0, .int 0, .int r])) a (.lst b5)) l5 = some (.lst [.int 0, .int 0, .int r]) := by
      rw [upd_ne n5a]
      exact upd_same
    obtain ⟨Y5, e5⟩ : ∃ Y5, Y5 = upd (upd Y4 l5 (.lst [.int 0, .int 0, .int r])) a (.lst b5) := ⟨_, rfl⟩
    rw [← e5] at bt5 hb5 hl5 ⊢
    obtain ⟨oi, o0, o1, hat⟩ : ∃ oi : Int, 0 ≤ oi ∧ oi < 1000000 ∧ atI [V.int 0, .int 0, .int r] r4 = some (.int oi) := by
      have hc : r4 = 0 ∨ r4 = 1 ∨ r4 = 2 := by omega
      rcases hc with rfl | rfl | rfl
      · exact ⟨0, by decide, by decide, atI_nat (j := 0) rfl⟩
      · exact ⟨0, by decide, by decide, atI_nat (j := 1) rfl⟩
      · exact ⟨r, r0, r1, atI_nat (j := 2) rfl⟩
    refine ⟨l5, _, _, _, rfl, rfl, SqL.of hl5, hat, _, rfl, l7, pv, rfl, .inl ⟨SqL.of (bt5 _ _ n7a hl7Y), fun l8 n8 => ⟨by show 3 ≤ sizeLine; decide, fun l9 n9 => ?_⟩⟩⟩
    have s8 := same_upd (o := .tup pv) n8
    have s9 := same_upd (o := .tup [.str (SX.S mr.nm), .int oi, .ref l8]) n9
    have hpv5 := dpAll_imm ((KeepT.but hb3 bt5).trans (KeepT.of s8)) hpv hgt.imm
    refine q _ _ _ (k + 1) b5 ((btY.trans bt5).trans (But.of (s8.trans s9))) ((s8.trans s9) _ _ hb5) (hB5.mono (by omega)) (.tup (SqT.of upd_same) (.cons (.str _) (.cons (.int _) (.cons (dp_same s9 (.tup (SqT.of upd_same) hpv5)) .nil)))) ?_ (by omega)
    rw [← hso]
    exact .mk hmm o0 o1 hgt
theorem ok_growns (T : Gw mg) (c_law_take : C8.Cal P w K mg base 1 "_law_take" spTake []) (c_law_one_of : C8.Cal P w K mg base 2 "_law_one_of" (spOneOf K) []) (c_law_number : C8.Cal P w K mg base 2 "_law_number" spNumber [])
    (D : Dd K mg "_law_grown" s__law_grown P__law_grown) : ∀ n, C8.Cal P w K mg base (n + 3) "_law_grown" (spGrown K n) []
  | 0 => by
    refine D.cal sc__law_grown (fun vs H Q E h => ?_) (fun f cdv A outer s H vs Q E hr h => ?_)
    · obtain ⟨a, gd, dz, rs, ms, ru, roof, skv, S, kind, nk, room, deep, m, b, rfl, _⟩ := h
      rfl
    · obtain ⟨a, gd, dz, rs, ms, ru, roof, skv, S, kind, nk, room, deep, m, b, rfl, gi, go, sz, szo, hnk, hfu, _⟩ := h
      exact absurd hfu (Nat.not_lt_zero _)
  | n + 1 => ok_grown T c_law_take c_law_one_of c_law_number D n (ok_growns T c_law_take c_law_one_of c_law_number D n)
end
/-! ### a dict and the empty dict -/
def rEqE : R2 := fun x y H Q => ∃ a b ks, x = .ref a ∧ y = .ref b ∧ H a = some (.dK ks) ∧ H b = some (.dK []) ∧ Q (.bl (decide (ks.length = 0))) H
theorem op_eqE {X : Cx} (hu : X.A.units < cLine) : OpR X (compareOp .Eq) rEqE := by
  intro pins s σ H x y v u Q I rx ry h
  obtain ⟨a, b, ks, rfl, rfl, ea, eb, q⟩ := h
  by_cases h0 : ks.length = 0
  · have e0 : ks = [] := List.length_eq_zero_iff.mp h0
    subst e0
    exact op_eq_dictA hu pins s σ H _ _ v u Q I rx ry ⟨a, b, [], [], rfl, rfl, ea, eb, rfl, (fun p h => nomatch h), q⟩
  · obtain rfl : v = Value.ref a := rx
    obtain rfl : u = Value.ref b := ry
    obtain ⟨_, ya, va, ra, da⟩ := (show ObjOk X.prog X.w H s.heap a (.dK ks) from I.hok a _ ea)
    obtain ⟨_, yb, vb, rb, db⟩ := (show ObjOk X.prog X.w H s.heap b (.dK []) from I.hok b _ eb)
    have hl : va.length = ks.length := ra.length.symm
    have hl2 : vb.length = 0 := rb.length.symm
    exact PySem.W.keq_eq (knd := mixKind X.prog X.w) (r := true) ya yb da db hu (fun e => absurd e (by omega)) (fin_bl I q (by simp [hl, hl2, h0]))
abbrev s__law_tree_of : Stmt := top 25
abbrev N__law_tree_of : List Str := ["_law_box", "_law_g", "_law_most", "_law_sizes_here"]
abbrev P__law_tree_of : List Str := ["_law_box", "_law_g", "_law_most"]
theorem sc__law_tree_of : FnScope N__law_tree_of P__law_tree_of (defScope s__law_tree_of) := ⟨rfl, rfl, rfl, by decide +kernel, rfl, by decide +kernel, by decide +kernel⟩
structure To (mg : Str → Option Value) : Prop where
  sorted : mg "sorted" = none
def spTreeOf (K : PySem.W.Frag) : Sp := fun vs H Q _ => ∃ (a gd : Addr) (rs : List SRow) (ms : List MRow) (ru : List RRow) (roof most m : Nat) (b : List V), vs = [.ref a, .ref gd, .int ((most : Nat) : Int)] ∧ GramIn K H a gd rs ms ru roof ∧ GramOk rs ms ru roof ∧ 1 ≤ most ∧ most ≤ 1000 ∧ H a = some (.lst b) ∧ BoxL m b ∧ m + 10000 < 900000 ∧
  ∀ (H' : Hp) (v : V) (b' : List V), But a H H' → H' a = some (.lst b') → BoxL (m + 10000) b' → (v = .non ∨ ∃ d k kind, Dp K H' v d ∧ Gt ms kind 28 k d ∧ k ≤ most + 15) → Q v H'
theorem SzAt.has {Y : Hp} {dz : Addr} {kvs : List (Key × V)} {S : List Nat → Option Nat} {names : List (List Nat)} (h : SzAt Y dz kvs S names) {w : List Nat} (hw : kS w ∈ kvs.map (·.1)) : ∃ n, S w = some n := by
  have e := valV_any (kS w) kvs
  have : (kvs.any fun kv => decide (kv.1 = kS w)) = true := by
    obtain ⟨x, hx, ex⟩ := List.mem_map.mp hw
    exact List.any_eq_true.mpr ⟨x, hx, decide_eq_true ex⟩
  rw [this, h.v w] at e
  cases c : S w with
  | none => rw [c] at e; cases e
  | some n => exact ⟨n, rfl⟩
section
variable {P : Program} {w : World} {K : PySem.W.Frag} {mg : Str → Option Value} {base : Heap}
theorem ok_tree_of (T : To mg) (c_law_take : C8.Cal P w K mg base 1 "_law_take" spTake []) (c_law_one_of : C8.Cal P w K mg base 2 "_law_one_of" (spOneOf K) []) (c_law_sizes : C8.Cal P w K mg base 2 "_law_sizes" (spSizes K) []) (c_law_grown : C8.Cal P w K mg base 31 "_law_grown" (spGrown K 28) [])
    (D : Dd K mg "_law_tree_of" s__law_tree_of P__law_tree_of) : C8.Cal P w K mg base 32 "_law_tree_of" (spTreeOf K) [] := by
  refine D.cal sc__law_tree_of (fun vs H Q E h => ?_) (fun f cdv A outer s H vs Q E hr h => ?_)
  · obtain ⟨a, gd, rs, ms, ru, roof, most, m, b, rfl, _⟩ := h
    rfl
  · obtain ⟨a, gd, rs, ms, ru, roof, most, m, b, rfl, gi, go, hm1, hm2, ha, hB, hm, q⟩ := h
    refine ⟨_, (pss_cons (ps_set (i := 3) sc__law_tree_of.nd rfl (Or.inl rfl) (C8.pe_c c_law_sizes hr (by decide) (by rfl) (pa_cons (pv 1) pa_nil)))
        (pss_cons (ps_if (pt_cmpR (op_eqE (Nat.lt_of_le_of_lt (Nat.le_add_right _ 65) (hu65 hr))) (pv 3) pe_dnewK (nomark _))
          (pss_one (ps_ret pe_non))
          pss_nil)
        (pss_one (ps_ret (C8.pe_c c_law_grown hr (by decide) (by rfl) (pa_cons (pv 0) (pa_cons (pv 1) (pa_cons (pv 3) (pa_cons (C8.pe_c c_law_one_of hr (by decide) (by rfl) (pa_cons (pv 0) (pa_cons (pe_callB (call_sortedD rfl) (by rfl) T.sorted (by decide +kernel) (pa_cons (pv 3) pa_nil)) pa_nil))) (pa_cons (pe_op op_add pe_int (C8.pe_c c_law_take hr (by decide) (by rfl) (pa_cons (pv 0) (pa_cons (pv 2) pa_nil)))) (pa_cons pe_int pa_nil))))))))))), ?_⟩
    refine ⟨_, rfl, a, gd, rs, ms, ru, roof, rfl, gi, go, fun X dz skv S sX nz sz szo => ?_⟩
    refine ⟨_, rfl, fun p np => ⟨dz, p, skv, rfl, rfl, same_upd np _ _ sz.d, upd_same, _, rfl, ?_⟩⟩
    have s1 := sX.trans (same_upd (o := .dK []) np)
    have sz1 := sz.same (same_upd (o := .dK []) np)
    have hb1 := s1 _ _ ha
    have bt1 := But.of (a := a) s1
    obtain ⟨X1, e1⟩ : ∃ X1, X1 = upd X p (.dK []) := ⟨_, rfl⟩
    rw [← e1] at s1 sz1 hb1 bt1 ⊢
    by_cases h0 : skv.length = 0
    · exact ifT (decide_eq_true h0) (q X1 .non b bt1 hb1 (hB.mono (by omega)) (.inl rfl))
    · refine ifF (decide_eq_false h0) ?_
      obtain ⟨ws, k1, k2, k3⟩ := sz1.ks
      have lw : ws.length = skv.length := by
        have := congrArg List.length k1
        rw [List.length_map, List.length_map] at this
        omega
      have lw4 : ws.length ≤ 4 := by
        have h4 := go.so.le
        have := List.Nodup.length_le_of_subset k2 (l₂ := rs.map SRow.nm) k3
        rw [List.length_map] at this
        omega
      refine ⟨_, rfl, _, rfl, _, rfl, _, rfl, _, rfl, dz, skv, ws.map SX.S, rfl, Rd.of sz1.d, by rw [k1, List.map_map]; rfl, by rw [List.length_map]; omega, fun ys p2 hperm _ np2 => ?_⟩
      have s2 := same_upd (o := .lst (ys.map V.str)) np2
      have ly : ys.length = skv.length := by rw [hperm.length_eq, List.length_map, lw]
      refine ⟨a, p2, m, b, ys.map V.str, rfl, s2 _ _ hb1, hB, by omega, SqL.of upd_same, fun z => ?_, by rw [List.length_map]; omega, by rw [List.length_map]; omega, fun i v b2 hv hB2 => ?_⟩
      · rw [z, hb1] at np2
        cases np2
      rw [List.getElem?_map] at hv
      obtain ⟨y, hy, rfl⟩ : ∃ y, ys[i]? = some y ∧ v = .str y := by
        cases e : ys[i]? with
        | none => rw [e] at hv; cases hv
        | some y => rw [e] at hv; exact ⟨y, rfl, (Option.some.inj hv).symm⟩
      obtain ⟨kind, hkw, rfl⟩ := List.mem_map.mp (hperm.mem_iff.mp (List.mem_of_getElem? hy))
      obtain ⟨nk, hnk⟩ := sz1.has (w := kind) (by rw [k1]; exact List.mem_map_of_mem hkw)
      have bt2 := (bt1.trans (But.of (a := a) s2)).trans (But.upd (o := .lst b2) (But.refl a _))
      refine ⟨_, rfl, _, rfl, a, _, _, b2, rfl, upd_same, hB2, by omega, by omega, by omega, fun r b3 r0 r1 hB3 => ?_⟩
      obtain ⟨rn, rfl⟩ := Int.eq_ofNat_of_zero_le r0
      have bt3 := bt2.trans (But.upd (o := .lst b3) (But.refl a _))
      have nk15 := (szo.some kind nk hnk).2.1
      have hfu : fuel S (rs.map SRow.nm) 24 nk < 28 := by
        unfold fuel
        rw [if_pos (by decide)]
        decide
      refine ⟨_, _, rfl, rfl, a, gd, dz, rs, ms, ru, roof, skv, S, kind, nk, 1 + rn, 24, _, b3, rfl, gi.go ha bt3, go, sz1.but hb1 ((But.of (a := a) s2).trans ((But.upd (But.refl a _)).trans (But.upd (But.refl a _)))), szo, hnk, hfu, by omega, upd_same, hB3, by omega, fun H' v d k b' bt hb' hB' hd hg hk => ?_⟩
      exact q H' v b' (bt3.trans bt) hb' (hB'.mono (by omega)) (.inr ⟨d, k, kind, hd, hg, by omega⟩)
end
def Nm (z : Str) : Prop := ∃ w, z = SX.S w ∧ NmOk w
theorem let_small {c : Nat} (h : isLet c = true) : c < 128 := by
  unfold isLet at h
  simp only [Bool.and_eq_true, decide_eq_true_eq] at h
  omega
/-! ### trees of any names -/
abbrev s__law_wild : Stmt := top 29
abbrev N__law_wild : List Str := ["_law_box", "_law_names", "_law_room", "_law_deep", "_law_many", "_law_left", "_law_parts", "_law_k", "_law_some"]
abbrev P__law_wild : List Str := ["_law_box", "_law_names", "_law_room", "_law_deep"]
theorem sc__law_wild : FnScope N__law_wild P__law_wild (defScope s__law_wild) := ⟨rfl, rfl, rfl, by decide +kernel, rfl, by decide +kernel, by decide +kernel⟩
mutual
/-- a tree so deep, of so many nodes -/
inductive Tr : Nat → Nat → PyData → Prop where
  | mk {n k : Nat} {z : Str} {i : Int} {ds : List PyData} (hz : Nm z) (h0 : 0 ≤ i) (h1 : i < 1000000) (hl : ds.length ≤ 2) (h : TrAll n k ds) : Tr (n + 1) (k + 1) (.tuple [.str z, .int i, .tuple ds])
inductive TrAll : Nat → Nat → List PyData → Prop where
  | nil (n : Nat) : TrAll n 0 []
  | cons {n k k' : Nat} {d : PyData} {ds : List PyData} (h : Tr n k d) (a : TrAll n k' ds) : TrAll n (k + k') (d :: ds)
end
theorem TrAll.snoc : ∀ {n k : Nat} {ds : List PyData}, TrAll n k ds → ∀ {k' : Nat} {d : PyData}, Tr n k' d → TrAll n (k + k') (ds ++ [d])
  | _, _, _, .nil n, k', d, h => by
    rw [Nat.zero_add]
    exact (show TrAll n (k' + 0) [d] from .cons h (.nil n))
  | _, _, _, .cons h0 a, k', d, h => by
    rw [Nat.add_assoc]
    exact .cons h0 (TrAll.snoc a h)
def spWild (K : PySem.W.Frag) (n : Nat) : Sp := fun vs H Q _ => ∃ (a nl : Addr) (room deep : Int) (m : Nat) (b : List V) (zs : List Str), vs = [.ref a, .ref nl, .int room, .int deep] ∧ deep ≤ n ∧ 1 ≤ room ∧ room ≤ 1000 ∧ H a = some (.lst b) ∧ BoxL m b ∧ m + 9 * room.toNat < 900000 ∧
  SqL K H nl (zs.map V.str) ∧ nl ≠ a ∧ 0 < zs.length ∧ zs.length ≤ 1000 ∧ (∀ z ∈ zs, Nm z) ∧
  ∀ (H' : Hp) (v : V) (d : PyData) (k : Nat) (b' : List V), But a H H' → H' a = some (.lst b') → BoxL (m + 9 * room.toNat) b' → Dp K (Nw H H') v d → Tr (n + 1) k d → k ≤ room.toNat → Q v H'
structure Wl (mg : Str → Option Value) : Prop where
  range : mg "range" = none
  min : mg "min" = none
  tuple : mg "tuple" = none
section
variable {P : Program} {w : World} {K : PySem.W.Frag} {mg : Str → Option Value} {base : Heap}
theorem ok_wild (T : Wl mg) (c_law_take : C8.Cal P w K mg base 1 "_law_take" spTake []) (c_law_one_of : C8.Cal P w K mg base 2 "_law_one_of" (spOneOf K) []) (c_law_number : C8.Cal P w K mg base 2 "_law_number" spNumber [])
    (D : Dd K mg "_law_wild" s__law_wild P__law_wild) : ∀ n, C8.Cal P w K mg base (n + 3) "_law_wild" (spWild K n) [] := by
  intro n
  induction n with
  | zero =>
    refine D.cal sc__law_wild (fun vs H Q E h => ?_) (fun f cdv A outer s H vs Q E hr h => ?_)
    · obtain ⟨a, nl, room, deep, m, b, zs, rfl, _⟩ := h
      rfl
    · obtain ⟨a, nl, room, deep, m, b, zs, rfl, hdp, hr1, hr2, ha, hB, hm, hN, nn, z0, z1, hz, q⟩ := h
      refine ⟨_, (pss_cons (ps_par3 rfl sc__law_wild.nd (i := 4) (j := 5) (l := 6) rfl rfl rfl (by decide) (by decide) (by decide) rfl rfl rfl (pa_cons (pe_ifExp (pt_cmpR op_gt (pv 3) pe_int (nomark _)) (C8.pe_c c_law_take hr (by omega) (by rfl) (pa_cons (pv 0) (pa_cons pe_int pa_nil))) pe_int) (pa_cons (pe_op op_sub (pv 2) pe_int) (pa_cons (pe_lst pa_nil) pa_nil))) (by rfl))
          (pss_cons (ps_for PassesOwn.never rfl (pi_range1 rfl T.range (pa_cons (pe_callB (call_min2 rfl) (by rfl) T.min (by decide +kernel) (pa_cons (pv 4) (pa_cons (pv 5) pa_nil))) pa_nil)) (pg_name (i := 7) sc__law_wild.nd rfl (Or.inl rfl)) (pss_cons ps_never (pss_cons ps_never (pss_cons ps_never (pss_one ps_never)))))
          (pss_one (ps_ret (pe_tup (pa_cons (C8.pe_c c_law_one_of hr (by omega) (by rfl) (pa_cons (pv 0) (pa_cons (pv 1) pa_nil))) (pa_cons (pe_ix ix_list (pe_lst (pa_cons pe_int (pa_cons pe_int (pa_cons pe_int (pa_cons (C8.pe_c c_law_number hr (by omega) (by rfl) (pa_cons (pv 0) pa_nil)) pa_nil))))) (C8.pe_c c_law_take hr (by omega) (by rfl) (pa_cons (pv 0) (pa_cons pe_int pa_nil))) (fun _ _ => rfl)) (pa_cons (pe_callTy call_tuple_of (by rfl) T.tuple (by decide +kernel) (pa_cons (pv 6) pa_nil)) pa_nil)))))))), ?_⟩
      refine ⟨_, rfl, _, _, rfl, rfl, _, rfl, ifF (decide_eq_false (by omega)) ?_⟩
      refine ⟨_, rfl, _, _, rfl, rfl, by show 0 ≤ sizeLine; decide, fun L nLH => ⟨_, _, _, rfl, ?_⟩⟩
      have e0 : (if room - 1 < 0 then room - 1 else 0) = (0 : Int) := if_neg (by omega)
      refine ⟨_, rfl, _, rfl, _, _, rfl, _, rfl, by rw [e0]; decide, by rw [e0]; decide, ?_⟩
      refine for_range (lo := 0) (fun j σ H3 => σ = [some (.ref a), some (.ref nl), some (.int room), some (.int deep), some (.int 0), some (.int (room - 1)), some (.ref L), none, none] ∧ H3 = upd H L (.lst [])) ⟨rfl, rfl⟩ (fun i σ H3 hi _ => absurd hi (by rw [e0]; exact Nat.not_lt_zero i)) ?_
      rintro σ H3 ⟨rfl, rfl⟩
      have btZ : But a H (upd H L (.lst [])) := But.of (same_upd nLH)
      have hbZ := same_upd (o := .lst []) nLH _ _ ha
      have hBZ := hB
      have hL : (upd H L (.lst [])) L = some (.lst []) := upd_same
      obtain ⟨vs, ds, k, hL, dAll, trA, hl2, hk⟩ : ∃ (vs : List V) (ds : List PyData) (k : Nat), (upd H L (.lst [])) L = some (.lst vs) ∧ DpAll K (Nw H (upd H L (.lst []))) vs ds ∧ TrAll 0 k ds ∧ ds.length ≤ 2 ∧ k + 1 ≤ room.toNat := ⟨[], [], 0, hL, .nil, .nil 0, by decide, by omega⟩
      obtain ⟨Z, eZ⟩ : ∃ Z, Z = upd H L (.lst []) := ⟨_, rfl⟩
      rw [← eZ] at btZ hbZ hL dAll ⊢
      obtain ⟨m1, em⟩ : ∃ m1, m1 = m := ⟨_, rfl⟩
      rw [← em] at hBZ
      obtain ⟨b1, eb⟩ : ∃ b1, b1 = b := ⟨_, rfl⟩
      rw [← eb] at hbZ hBZ
      refine ⟨_, rfl, _, rfl, a, nl, m1, b1, zs.map V.str, rfl, hbZ, hBZ, by omega, But.seq btZ nn hN, nn, by rw [List.length_map]; exact z0, by rw [List.length_map]; exact z1, fun i v b2 hv hB2 => ?_⟩
      obtain ⟨z, hzi, rfl⟩ : ∃ z, zs[i]? = some z ∧ v = .str z := by
        rw [List.getElem?_map] at hv
        cases e : zs[i]? with
        | none => rw [e] at hv; cases hv
        | some t => rw [e] at hv; exact ⟨t, rfl, (Option.some.inj hv).symm⟩
      have nma := hz z (List.mem_of_getElem? hzi)
      refine ⟨_, rfl, a, m1 + 1, b2, rfl, upd_same, hB2, by omega, fun H3 r b3 bt3 hb3 hB3 r0 r1 => ?_⟩
      refine ⟨by show 4 ≤ sizeLine; decide, fun l4 n4 => ?_⟩
      have nl4 : a ≠ l4 := ne_of_none hb3 n4
      refine ⟨_, rfl, a, 4, m1 + 5, b3, rfl, same_upd n4 _ _ hb3, hB3, by omega, by decide, by decide, fun r4 b4 r40 r41 hB4 => ?_⟩
      obtain ⟨oi, o0, o1, hat⟩ : ∃ oi : Int, 0 ≤ oi ∧ oi < 1000000 ∧ atI [V.int 0, .int 0, .int 1, .int r] r4 = some (.int oi) := by
        have hc : r4 = 0 ∨ r4 = 1 ∨ r4 = 2 ∨ r4 = 3 := by omega
        rcases hc with rfl | rfl | rfl | rfl
        · exact ⟨0, by decide, by decide, atI_nat (j := 0) rfl⟩
        · exact ⟨0, by decide, by decide, atI_nat (j := 1) rfl⟩
        · exact ⟨1, by decide, by decide, atI_nat (j := 2) rfl⟩
        · exact ⟨r, r0, r1, atI_nat (j := 3) rfl⟩
      refine ⟨l4, _, _, _, rfl, rfl, SqL.of (by rw [upd_ne nl4.symm, upd_same]), hat, ?_⟩
      have nLa : L ≠ a := fun y => by
        rw [y, ha] at nLH
        cases nLH
      have btZ5 : But a Z (upd (upd H3 l4 (.lst [.int 0, .int 0, .int 1, .int r])) a (.lst b4)) := But.upd (But.new ((But.upd (But.refl a Z)).trans bt3) n4)
      have hb5 : (upd (upd H3 l4 (.lst [.int 0, .int 0, .int 1, .int r])) a (.lst b4)) a = some (.lst b4) := upd_same
      have hL5 := btZ5 _ _ nLa hL
      obtain ⟨Z5, e5⟩ : ∃ Z5, Z5 = upd (upd H3 l4 (.lst [.int 0, .int 0, .int 1, .int r])) a (.lst b4) := ⟨_, rfl⟩
      rw [← e5] at btZ5 hb5 hL5 ⊢
      refine ⟨_, rfl, L, vs, rfl, .inl ⟨SqL.of hL5, fun t nt => ?_⟩⟩
      refine ⟨by show 3 ≤ sizeLine; decide, fun p np => ?_⟩
      have k1 := same_upd (o := .tup vs) nt
      have k2 := same_upd (o := .tup [.str z, .int oi, .ref t]) np
      have kk := k1.trans k2
      have bt5 := btZ.trans btZ5
      have f1 : H t = none := But.free bt5 hb5 nt
      have f2 : H p = none := But.free (bt5.trans (But.of k1)) (k1 _ _ hb5) np
      have dA2 : DpAll K (Nw H (upd (upd Z5 t (.tup vs)) p (.tup [.str z, .int oi, .ref t]))) vs ds := dpAll_same (fun c o e => by
        obtain ⟨c1, c2⟩ := Nw.get e
        have nca : c ≠ a := fun y => by
          rw [y, ha] at c1
          cases c1
        exact Nw.mk c1 (kk _ _ (btZ5 _ _ nca c2))) dAll
      exact q _ _ _ (k + 1) b4 (bt5.trans (But.of kk)) (kk _ _ hb5) (hB4.mono (by omega)) (.tup (SqT.of (Nw.mk f2 upd_same)) (.cons (.str _) (.cons (.int _) (.cons (.tup (SqT.of (Nw.mk f1 (k2 _ _ upd_same))) dA2) .nil)))) (.mk nma o0 o1 hl2 trA) hk
  | succ n c_law_wild =>
    refine D.cal sc__law_wild (fun vs H Q E h => ?_) (fun f cdv A outer s H vs Q E hr h => ?_)
    · obtain ⟨a, nl, room, deep, m, b, zs, rfl, _⟩ := h
      rfl
    · obtain ⟨a, nl, room, deep, m, b, zs, rfl, hdp, hr1, hr2, ha, hB, hm, hN, nn, z0, z1, hz, q⟩ := h
      refine ⟨_, (pss_cons (ps_par3 rfl sc__law_wild.nd (i := 4) (j := 5) (l := 6) rfl rfl rfl (by decide) (by decide) (by decide) rfl rfl rfl (pa_cons (pe_ifExp (pt_cmpR op_gt (pv 3) pe_int (nomark _)) (C8.pe_c c_law_take hr (by omega) (by rfl) (pa_cons (pv 0) (pa_cons pe_int pa_nil))) pe_int) (pa_cons (pe_op op_sub (pv 2) pe_int) (pa_cons (pe_lst pa_nil) pa_nil))) (by rfl))
          (pss_cons (ps_for PassesOwn.never rfl (pi_range1 rfl T.range (pa_cons (pe_callB (call_min2 rfl) (by rfl) T.min (by decide +kernel) (pa_cons (pv 4) (pa_cons (pv 5) pa_nil))) pa_nil)) (pg_name (i := 7) sc__law_wild.nd rfl (Or.inl rfl))
            (C8.pss_cut (ps_set (i := 8) sc__law_wild.nd rfl (Or.inl rfl) (pe_ifExp (pt_cmpR op_eq (pe_op op_add (pv 7) pe_int) (pe_callB (call_min2 rfl) (by rfl) T.min (by decide +kernel) (pa_cons (pv 4) (pa_cons (pv 5) pa_nil))) (nomark _)) (pv 5) (pe_op op_add (C8.pe_c c_law_take hr (by omega) (by rfl) (pa_cons (pv 0) (pa_cons (pv 5) pa_nil))) pe_int)))
          (pss_cons (ps_set (i := 8) sc__law_wild.nd rfl (Or.inl rfl) (pe_callB (call_min2 rfl) (by rfl) T.min (by decide +kernel) (pa_cons (pv 8) (pa_cons (pe_op op_sub (pv 5) (pe_op op_sub (pe_op op_sub (pe_callB (call_min2 rfl) (by rfl) T.min (by decide +kernel) (pa_cons (pv 4) (pa_cons (pv 5) pa_nil))) (pv 7)) pe_int)) pa_nil))))
          (pss_cons (ps_expr (pe_bm PySem.F.plainAttrs_list PySem.F.slot_list_append PySem.F.type_list_append mt_append (pv 6) (pa_cons (C8.pe_c c_law_wild hr (by omega) (by rfl) (pa_cons (pv 0) (pa_cons (pv 1) (pa_cons (pv 8) (pa_cons (pe_op op_sub (pv 3) pe_int) pa_nil))))) pa_nil)))
          (pss_one (ps_set (i := 5) sc__law_wild.nd rfl (Or.inl rfl) (pe_op op_sub (pv 5) (pv 8))))))))
          (pss_one (ps_ret (pe_tup (pa_cons (C8.pe_c c_law_one_of hr (by omega) (by rfl) (pa_cons (pv 0) (pa_cons (pv 1) pa_nil))) (pa_cons (pe_ix ix_list (pe_lst (pa_cons pe_int (pa_cons pe_int (pa_cons pe_int (pa_cons (C8.pe_c c_law_number hr (by omega) (by rfl) (pa_cons (pv 0) pa_nil)) pa_nil))))) (C8.pe_c c_law_take hr (by omega) (by rfl) (pa_cons (pv 0) (pa_cons pe_int pa_nil))) (fun _ _ => rfl)) (pa_cons (pe_callTy call_tuple_of (by rfl) T.tuple (by decide +kernel) (pa_cons (pv 6) pa_nil)) pa_nil)))))))), ?_⟩
      by_cases dz : 0 < deep
      · refine ⟨_, rfl, _, _, rfl, rfl, _, rfl, ifT (decide_eq_true dz) ?_⟩
        refine ⟨_, rfl, a, 3, m, b, rfl, ha, hB, by omega, by decide, by decide, fun many b0 mn0 mn1 hB0 => ?_⟩
        refine ⟨_, rfl, _, _, rfl, rfl, by show 0 ≤ sizeLine; decide, fun L nL => ⟨_, _, _, rfl, ?_⟩⟩
        have nLa : L ≠ a := fun y => by
          rw [y, upd_same] at nL
          cases nL
        have nLH : H L = none := by
          rw [upd_ne nLa] at nL
          exact nL
        refine ⟨_, rfl, _, rfl, _, _, rfl, _, rfl, by split <;> omega, by split <;> omega, ?_⟩
        obtain ⟨KK, eK⟩ : ∃ KK : Int, KK = if room - 1 < many then room - 1 else many := ⟨_, rfl⟩
        have hK : 0 ≤ KK ∧ KK ≤ 2 ∧ (KK = 2 → many = 2 ∧ 2 ≤ room - 1) ∧ KK ≤ room - 1 := by
          rw [eK]
          split <;> omega
        rw [← eK]
        obtain ⟨hK0, hK2, hKm, hKr⟩ := hK
        refine for_range (lo := 0) (n := KK.toNat) (fun j σ H3 => ∃ left y7 y8 vs ds k b', σ = [some (.ref a), some (.ref nl), some (.int room), some (.int deep), some (.int many), some (.int left), some (.ref L), y7, y8] ∧ But a H H3 ∧ H3 a = some (.lst b') ∧ H3 L = some (.lst vs) ∧ vs.length = j ∧ DpAll K (Nw (upd H L (.lst [])) H3) vs ds ∧ TrAll (n + 1) k ds ∧ 0 ≤ left ∧ left ≤ room - 1 ∧ (k : Int) ≤ room - 1 - left ∧ (j < KK.toNat → 1 ≤ left) ∧ (j = 0 → left = room - 1) ∧ BoxL (m + 1 + j + 9 * (room - 1 - left).toNat) b')
          ⟨room - 1, none, none, [], [], 0, b0, rfl, But.new (But.upd (But.refl a H)) nL, by rw [upd_ne nLa.symm, upd_same], upd_same, rfl, .nil, .nil _, by omega, by omega, by omega, fun _ => by omega, fun _ => rfl, hB0.mono (by omega)⟩ ?_ ?_
        · rintro j σ H3 hj ⟨left, y7, y8, vs, ds, k, b3, rfl, bt3, hb3, hL3, hvl, hdp3, htr, l0, l1, hk, hl, hj0, hB3⟩
          rw [Int.zero_add]
          have hl := hl hj
          have hj2 : j < 2 := by omega
          refine ⟨fun σ H4 => ∃ s1 b4, σ = [some (.ref a), some (.ref nl), some (.int room), some (.int deep), some (.int many), some (.int left), some (.ref L), some (.int j), some (.int s1)] ∧ But a H3 H4 ∧ H4 a = some (.lst b4) ∧ 1 ≤ s1 ∧ s1 ≤ left ∧ BoxL (m + 1 + j + 9 * (room - 1 - left).toNat + 1) b4, ?_, ?_⟩
          · refine ⟨_, rfl, _, _, rfl, rfl, _, rfl, _, rfl, _, _, rfl, rfl, _, rfl, ?_⟩
            by_cases e : (j : Int) + 1 = (if left < many then left else many)
            · exact ifT (decide_eq_true (congrArg V.int e)) ⟨_, rfl, left, b3, rfl, But.refl a H3, hb3, hl, by omega, hB3.mono (by omega)⟩
            · refine ifF (decide_eq_false fun z => e (V.int.inj z)) ?_
              refine ⟨_, rfl, _, rfl, a, left, _, b3, rfl, hb3, hB3, by omega, by omega, by omega, fun r b4 r0 r1 hB4 => ⟨_, _, rfl, rfl, ?_⟩⟩
              exact ⟨r + 1, b4, rfl, But.upd (But.refl a H3), upd_same, by omega, by omega, hB4⟩
          · rintro σ H4 ⟨s1, b4, rfl, bt4, hb4, s10, s11, hB4⟩
            refine ⟨_, rfl, _, rfl, _, rfl, _, rfl, _, _, rfl, _, rfl, _, _, rfl, rfl, _, _, rfl, rfl, _, _, rfl, rfl, _, _, rfl, ?_⟩
            obtain ⟨s2, e2⟩ : ∃ s2 : Int, s2 = (if left - ((if left < many then left else many) - (j : Int) - 1) < s1 then left - ((if left < many then left else many) - (j : Int) - 1) else s1) := ⟨_, rfl⟩
            have hs2 : 1 ≤ s2 ∧ s2 ≤ left ∧ (j = 0 → KK = 2 → s2 ≤ left - 1) := by
              have hmn : (if left < many then left else many) ≤ left ∧ (if left < many then left else many) ≤ 2 ∧ (j = 0 → KK = 2 → (if left < many then left else many) = 2) := by
                split <;> refine ⟨by omega, by omega, fun h1 h2 => ?_⟩
                · have := hj0 h1
                  have := hKm h2
                  omega
                · have := hKm h2
                  omega
              obtain ⟨g1, g2, g3⟩ := hmn
              rw [e2]
              split
              · refine ⟨by omega, by omega, fun h1 h2 => ?_⟩
                have := g3 h1 h2
                omega
              · refine ⟨by omega, by omega, fun h1 h2 => ?_⟩
                have := g3 h1 h2
                omega
            rw [← e2]
            obtain ⟨s20, s21, s22⟩ := hs2
            have hL4 := bt4 _ _ nLa hL3
            refine ⟨_, rfl, .inl ⟨rfl, _, SqL.of hL4⟩, _, rfl, _, rfl, _, rfl, _, rfl, _, _, rfl, rfl, ?_⟩
            refine ⟨a, nl, s2, deep - 1, _, b4, zs, rfl, by omega, s20, by omega, hb4, hB4, by omega, But.seq (bt3.trans bt4) nn hN, nn, z0, z1, hz, fun H5 v d k2 b5 bt5 hb5 hB5 hv tr5 hk2 => ?_⟩
            have hL5 := bt5 _ _ nLa hL4
            refine ⟨L, vs, v, rfl, rfl, hL5, by rw [hvl]; exact small1000 (by omega), ?_⟩
            refine ⟨_, rfl, _, rfl, _, _, rfl, rfl, ?_⟩
            refine ⟨left - s2, _, _, vs ++ [v], ds ++ [d], k + k2, b5, rfl, ?_, by rw [upd_ne nLa.symm]; exact hb5, upd_same, by rw [List.length_append, hvl]; rfl, ?_, htr.snoc tr5, by omega, by omega, by omega, fun h => ?_, fun h => absurd h (by omega), hB5.mono (by omega)⟩
            · refine fun c o nc hc => ?_
              rw [upd_ne (ne_of_none hc nLH)]
              exact bt5 _ _ nc (bt4 _ _ nc (bt3 _ _ nc hc))
            · refine dpAll_snoc (dpAll_same (fun c o e => ?_) hdp3) (dp_same (fun c o e => ?_) hv)
              · obtain ⟨c1, c2⟩ := Nw.get e
                have nc : c ≠ L := fun z => by
                  rw [z, upd_same] at c1
                  cases c1
                have nca : c ≠ a := fun z => by
                  rw [z, upd_ne nLa.symm, ha] at c1
                  cases c1
                exact Nw.mk c1 (by rw [upd_ne nc]; exact bt5 _ _ nca (bt4 _ _ nca c2))
              · obtain ⟨c1, c2⟩ := Nw.get e
                have nc : c ≠ L := fun z => by
                  rw [z, hL4] at c1
                  cases c1
                exact Nw.mk (by rw [upd_ne nc]; exact But.free (bt3.trans bt4) hb4 c1) (by rw [upd_ne nc]; exact c2)
            · have h0 : j = 0 := by omega
              have := s22 h0 (by omega)
              omega
        · rintro σ Z ⟨left, y7, y8, vs, ds, k, b1, rfl, btZ, hbZ, hL, hvl, hdp3, trA, l0, l1, hk', hl, hj0, hBZ⟩
          have lds := dpAll_len hdp3
          have hl2 : ds.length ≤ 2 := by omega
          have hk : k + 1 ≤ room.toNat := by omega
          obtain ⟨m1, em⟩ : ∃ m1, m1 = m + 1 + KK.toNat + 9 * (room - 1 - left).toNat := ⟨_, rfl⟩
          rw [← em] at hBZ
          have dAll : DpAll K (Nw H Z) vs ds := dpAll_same (fun c o e => by
            obtain ⟨c1, c2⟩ := Nw.get e
            have nc : c ≠ L := fun z => by
              rw [z, upd_same] at c1
              cases c1
            rw [upd_ne nc] at c1
            exact Nw.mk c1 c2) hdp3
          refine ⟨_, rfl, _, rfl, a, nl, m1, b1, zs.map V.str, rfl, hbZ, hBZ, by omega, But.seq btZ nn hN, nn, by rw [List.length_map]; exact z0, by rw [List.length_map]; exact z1, fun i v b2 hv hB2 => ?_⟩
          obtain ⟨z, hzi, rfl⟩ : ∃ z, zs[i]? = some z ∧ v = .str z := by
            rw [List.getElem?_map] at hv
            cases e : zs[i]? with
            | none => rw [e] at hv; cases hv
            | some t => rw [e] at hv; exact ⟨t, rfl, (Option.some.inj hv).symm⟩
          have nma := hz z (List.mem_of_getElem? hzi)
          refine ⟨_, rfl, a, m1 + 1, b2, rfl, upd_same, hB2, by omega, fun H3 r b3 bt3 hb3 hB3 r0 r1 => ?_⟩
          refine ⟨by show 4 ≤ sizeLine; decide, fun l4 n4 => ?_⟩
          have nl4 : a ≠ l4 := ne_of_none hb3 n4
          refine ⟨_, rfl, a, 4, m1 + 5, b3, rfl, same_upd n4 _ _ hb3, hB3, by omega, by decide, by decide, fun r4 b4 r40 r41 hB4 => ?_⟩
          obtain ⟨oi, o0, o1, hat⟩ : ∃ oi : Int, 0 ≤ oi ∧ oi < 1000000 ∧ atI [V.int 0, .int 0, .int 1, .int r] r4 = some (.int oi) := by
            have hc : r4 = 0 ∨ r4 = 1 ∨ r4 = 2 ∨ r4 = 3 := by omega
            rcases hc with rfl | rfl | rfl | rfl
            · exact ⟨0, by decide, by decide, atI_nat (j := 0) rfl⟩
            · exact ⟨0, by decide, by decide, atI_nat (j := 1) rfl⟩
            · exact ⟨1, by decide, by decide, atI_nat (j := 2) rfl⟩
            · exact ⟨r, r0, r1, atI_nat (j := 3) rfl⟩
          refine ⟨l4, _, _, _, rfl, rfl, SqL.of (by rw [upd_ne nl4.symm, upd_same]), hat, ?_⟩
          have nLa : L ≠ a := fun y => by
            rw [y, ha] at nLH
            cases nLH
          have btZ5 : But a Z (upd (upd H3 l4 (.lst [.int 0, .int 0, .int 1, .int r])) a (.lst b4)) := But.upd (But.new ((But.upd (But.refl a Z)).trans bt3) n4)
          have hb5 : (upd (upd H3 l4 (.lst [.int 0, .int 0, .int 1, .int r])) a (.lst b4)) a = some (.lst b4) := upd_same
          have hL5 := btZ5 _ _ nLa hL
          obtain ⟨Z5, e5⟩ : ∃ Z5, Z5 = upd (upd H3 l4 (.lst [.int 0, .int 0, .int 1, .int r])) a (.lst b4) := ⟨_, rfl⟩
          rw [← e5] at btZ5 hb5 hL5 ⊢
          refine ⟨_, rfl, L, vs, rfl, .inl ⟨SqL.of hL5, fun t nt => ?_⟩⟩
          refine ⟨by show 3 ≤ sizeLine; decide, fun p np => ?_⟩
          have k1 := same_upd (o := .tup vs) nt
          have k2 := same_upd (o := .tup [.str z, .int oi, .ref t]) np
          have kk := k1.trans k2
          have bt5 := btZ.trans btZ5
          have f1 : H t = none := But.free bt5 hb5 nt
          have f2 : H p = none := But.free (bt5.trans (But.of k1)) (k1 _ _ hb5) np
          have dA2 : DpAll K (Nw H (upd (upd Z5 t (.tup vs)) p (.tup [.str z, .int oi, .ref t]))) vs ds := dpAll_same (fun c o e => by
            obtain ⟨c1, c2⟩ := Nw.get e
            have nca : c ≠ a := fun y => by
              rw [y, ha] at c1
              cases c1
            exact Nw.mk c1 (kk _ _ (btZ5 _ _ nca c2))) dAll
          exact q _ _ _ (k + 1) b4 (bt5.trans (But.of kk)) (kk _ _ hb5) (hB4.mono (by omega)) (.tup (SqT.of (Nw.mk f2 upd_same)) (.cons (.str _) (.cons (.int _) (.cons (.tup (SqT.of (Nw.mk f1 (k2 _ _ upd_same))) dA2) .nil)))) (.mk nma o0 o1 hl2 trA) hk
      · have dz' := dz
        refine ⟨_, rfl, _, _, rfl, rfl, _, rfl, ifF (decide_eq_false dz) ?_⟩
        refine ⟨_, rfl, _, _, rfl, rfl, by show 0 ≤ sizeLine; decide, fun L nLH => ⟨_, _, _, rfl, ?_⟩⟩
        have e0 : (if room - 1 < 0 then room - 1 else 0) = (0 : Int) := if_neg (by omega)
        refine ⟨_, rfl, _, rfl, _, _, rfl, _, rfl, by rw [e0]; decide, by rw [e0]; decide, ?_⟩
        refine for_range (lo := 0) (fun j σ H3 => σ = [some (.ref a), some (.ref nl), some (.int room), some (.int deep), some (.int 0), some (.int (room - 1)), some (.ref L), none, none] ∧ H3 = upd H L (.lst [])) ⟨rfl, rfl⟩ (fun i σ H3 hi _ => absurd hi (by rw [e0]; exact Nat.not_lt_zero i)) ?_
        rintro σ H3 ⟨rfl, rfl⟩
        have btZ : But a H (upd H L (.lst [])) := But.of (same_upd nLH)
        have hbZ := same_upd (o := .lst []) nLH _ _ ha
        have hBZ := hB
        have hL : (upd H L (.lst [])) L = some (.lst []) := upd_same
        obtain ⟨vs, ds, k, hL, dAll, trA, hl2, hk⟩ : ∃ (vs : List V) (ds : List PyData) (k : Nat), (upd H L (.lst [])) L = some (.lst vs) ∧ DpAll K (Nw H (upd H L (.lst []))) vs ds ∧ TrAll (n + 1) k ds ∧ ds.length ≤ 2 ∧ k + 1 ≤ room.toNat := ⟨[], [], 0, hL, .nil, .nil (n + 1), by decide, by omega⟩
        obtain ⟨Z, eZ⟩ : ∃ Z, Z = upd H L (.lst []) := ⟨_, rfl⟩
        rw [← eZ] at btZ hbZ hL dAll ⊢
        obtain ⟨m1, em⟩ : ∃ m1, m1 = m := ⟨_, rfl⟩
        rw [← em] at hBZ
        obtain ⟨b1, eb⟩ : ∃ b1, b1 = b := ⟨_, rfl⟩
        rw [← eb] at hbZ hBZ
        refine ⟨_, rfl, _, rfl, a, nl, m1, b1, zs.map V.str, rfl, hbZ, hBZ, by omega, But.seq btZ nn hN, nn, by rw [List.length_map]; exact z0, by rw [List.length_map]; exact z1, fun i v b2 hv hB2 => ?_⟩
        obtain ⟨z, hzi, rfl⟩ : ∃ z, zs[i]? = some z ∧ v = .str z := by
          rw [List.getElem?_map] at hv
          cases e : zs[i]? with
          | none => rw [e] at hv; cases hv
          | some t => rw [e] at hv; exact ⟨t, rfl, (Option.some.inj hv).symm⟩
        have nma := hz z (List.mem_of_getElem? hzi)
        refine ⟨_, rfl, a, m1 + 1, b2, rfl, upd_same, hB2, by omega, fun H3 r b3 bt3 hb3 hB3 r0 r1 => ?_⟩
        refine ⟨by show 4 ≤ sizeLine; decide, fun l4 n4 => ?_⟩
        have nl4 : a ≠ l4 := ne_of_none hb3 n4
        refine ⟨_, rfl, a, 4, m1 + 5, b3, rfl, same_upd n4 _ _ hb3, hB3, by omega, by decide, by decide, fun r4 b4 r40 r41 hB4 => ?_⟩
        obtain ⟨oi, o0, o1, hat⟩ : ∃ oi : Int, 0 ≤ oi ∧ oi < 1000000 ∧ atI [V.int 0, .int 0, .int 1, .int r] r4 = some (.int oi) := by
          have hc : r4 = 0 ∨ r4 = 1 ∨ r4 = 2 ∨ r4 = 3 := by omega
          rcases hc with rfl | rfl | rfl | rfl
          · exact ⟨0, by decide, by decide, atI_nat (j := 0) rfl⟩
          · exact ⟨0, by decide, by decide, atI_nat (j := 1) rfl⟩
          · exact ⟨1, by decide, by decide, atI_nat (j := 2) rfl⟩
          · exact ⟨r, r0, r1, atI_nat (j := 3) rfl⟩
        refine ⟨l4, _, _, _, rfl, rfl, SqL.of (by rw [upd_ne nl4.symm, upd_same]), hat, ?_⟩
        have nLa : L ≠ a := fun y => by
          rw [y, ha] at nLH
          cases nLH
        have btZ5 : But a Z (upd (upd H3 l4 (.lst [.int 0, .int 0, .int 1, .int r])) a (.lst b4)) := But.upd (But.new ((But.upd (But.refl a Z)).trans bt3) n4)
        have hb5 : (upd (upd H3 l4 (.lst [.int 0, .int 0, .int 1, .int r])) a (.lst b4)) a = some (.lst b4) := upd_same
        have hL5 := btZ5 _ _ nLa hL
        obtain ⟨Z5, e5⟩ : ∃ Z5, Z5 = upd (upd H3 l4 (.lst [.int 0, .int 0, .int 1, .int r])) a (.lst b4) := ⟨_, rfl⟩
        rw [← e5] at btZ5 hb5 hL5 ⊢
        refine ⟨_, rfl, L, vs, rfl, .inl ⟨SqL.of hL5, fun t nt => ?_⟩⟩
        refine ⟨by show 3 ≤ sizeLine; decide, fun p np => ?_⟩
        have k1 := same_upd (o := .tup vs) nt
        have k2 := same_upd (o := .tup [.str z, .int oi, .ref t]) np
        have kk := k1.trans k2
        have bt5 := btZ.trans btZ5
        have f1 : H t = none := But.free bt5 hb5 nt
        have f2 : H p = none := But.free (bt5.trans (But.of k1)) (k1 _ _ hb5) np
        have dA2 : DpAll K (Nw H (upd (upd Z5 t (.tup vs)) p (.tup [.str z, .int oi, .ref t]))) vs ds := dpAll_same (fun c o e => by
          obtain ⟨c1, c2⟩ := Nw.get e
          have nca : c ≠ a := fun y => by
            rw [y, ha] at c1
            cases c1
          exact Nw.mk c1 (kk _ _ (btZ5 _ _ nca c2))) dAll
        exact q _ _ _ (k + 1) b4 (bt5.trans (But.of kk)) (kk _ _ hb5) (hB4.mono (by omega)) (.tup (SqT.of (Nw.mk f2 upd_same)) (.cons (.str _) (.cons (.int _) (.cons (.tup (SqT.of (Nw.mk f1 (k2 _ _ upd_same))) dA2) .nil)))) (.mk nma o0 o1 hl2 trA) hk
end
/-! ### whether a node is there -/
abbrev s_is_number : Stmt := top 2
abbrev N_is_number : List Str := ["thing"]
abbrev P_is_number : List Str := ["thing"]
theorem sc_is_number : FnScope N_is_number P_is_number (defScope s_is_number) := ⟨rfl, rfl, rfl, by decide +kernel, rfl, by decide +kernel, by decide +kernel⟩
def numB : PyData → Bool
  | .int i => decide (0 ≤ i)
  | _ => false
def partsD : PyData → List PyData
  | .tuple [_, _, .tuple ds] => ds
  | _ => []
/-- going by places -/
def stepD (t : PyData) : PyData → Option PyData
  | .int i => if 1 ≤ i ∧ i ≤ (partsD t).length then (partsD t)[(i - 1).toNat]? else none
  | _ => none
def goD : PyData → List PyData → Option PyData
  | t, [] => some t
  | t, p :: ps => match stepD t p with
    | some u => goD u ps
    | none => none
def thereD (t : PyData) : PyData → Bool
  | .tuple ps => (goD t ps).isSome
  | _ => false
theorem goD_snoc (t : PyData) : ∀ (ps : List PyData) (p : PyData), goD t (ps ++ [p]) = match goD t ps with
    | some u => stepD u p
    | none => none := by
  intro ps
  induction ps generalizing t with
  | nil =>
    intro p
    show (match stepD t p with | some u => goD u [] | none => none) = stepD t p
    cases stepD t p <;> rfl
  | cons q r ih =>
    intro p
    show (match stepD t q with | some u => goD u (r ++ [p]) | none => none) = _
    show _ = match (match stepD t q with | some u => goD u r | none => none) with
      | some u => stepD u p
      | none => none
    cases stepD t q with
    | none => rfl
    | some u => exact ih u p
theorem goD_none (t : PyData) : ∀ (ps qs : List PyData), goD t ps = none → goD t (ps ++ qs) = none := by
  intro ps
  induction ps generalizing t with
  | nil =>
    intro qs h
    cases h
  | cons q r ih =>
    intro qs h
    show (match stepD t q with | some u => goD u (r ++ qs) | none => none) = none
    have h2 : (match stepD t q with | some u => goD u r | none => none) = none := h
    cases e : stepD t q with
    | none => rfl
    | some u =>
      rw [e] at h2
      exact ih u qs h2
theorem Tr.part {n k : Nat} {t p u : PyData} (h : Tr n k t) (e : stepD t p = some u) : ∃ n' k', n' < n ∧ Tr n' k' u := by
  cases h with
  | mk hz h0 h1 hl ha =>
    rename_i n k z i ds
    have mem : u ∈ ds := by
      cases p with
      | int j =>
        have e2 : (if 1 ≤ j ∧ j ≤ ds.length then ds[(j - 1).toNat]? else none) = some u := e
        split at e2
        · exact List.mem_of_getElem? e2
        · cases e2
      | none => cases e
      | bool b => cases e
      | str z => cases e
      | list xs => cases e
      | tuple xs => cases e
      | dict kv => cases e
    have all : ∀ {k : Nat} {ds : List PyData}, TrAll n k ds → ∀ u ∈ ds, ∃ k', Tr n k' u := by
      intro k ds
      induction ds generalizing k with
      | nil => intro _ u hu; cases hu
      | cons d ds ih =>
        intro hh u hu
        cases hh with
        | cons h1 h2 =>
          rcases List.mem_cons.mp hu with rfl | hu
          · exact ⟨_, h1⟩
          · exact ih h2 u hu
    obtain ⟨k', hk'⟩ := all ha u mem
    exact ⟨n, k', Nat.lt_succ_self n, hk'⟩
/-- what a tree is on the heap -/
theorem tr_heap {K : PySem.W.Frag} {H : Hp} {n k : Nat} {v : V} {t : PyData} (h : Tr n k t) (hd : Dp K H v t) : ∃ (q r : Addr) (x y : V) (vs : List V), v = .ref q ∧ SqT K H q [x, y, .ref r] ∧ SqT K H r vs ∧ DpAll K H vs (partsD t) ∧ vs.length ≤ 2 := by
  cases h with
  | mk hz h0 h1 hl ha =>
    cases hd with
    | tup hS hA =>
      cases hA with
      | cons a1 hA =>
        cases hA with
        | cons a2 hA =>
          cases hA with
          | cons a3 hA =>
            cases hA
            cases a3 with
            | tup hS2 hA2 =>
              refine ⟨_, _, _, _, _, rfl, hS, hS2, hA2, ?_⟩
              rw [dpAll_len hA2]
              exact hl
theorem at_place {ws : List V} {j : Int} (hj : (j - 1).toNat < ws.length) (e1 : (1 : Int) ≤ j) : ∃ v, ws[(j - 1).toNat]? = some v ∧ atI ws (j - 1) = some v := by
  obtain ⟨m, hm⟩ : ∃ m : Nat, j - 1 = (m : Int) := ⟨(j - 1).toNat, by omega⟩
  rw [hm] at hj ⊢
  have hj : m < ws.length := by
    rw [Int.toNat_natCast] at hj
    exact hj
  rw [Int.toNat_natCast]
  exact ⟨ws[m], by simp [hj], atI_nat (by simp [hj])⟩
structure Nu (mg : Str → Option Value) : Prop where
  isinstance : mg "isinstance" = none
  int : mg "int" = none
  bool : mg "bool" = none
  tuple : mg "tuple" = none
  len : mg "len" = none
/-- the type of data -/
def tyD : PyData → String
  | .none => "NoneType"
  | .bool _ => "bool"
  | .int _ => "int"
  | .str _ => "str"
  | .list _ => "list"
  | .tuple _ => "tuple"
  | .dict _ => "dict"
theorem dp_tyD {K : PySem.W.Frag} {H : Hp} {v : V} {d : PyData} (h : Dp K H v d) : TyX K H v (.type (tyD d)) := by
  cases h with
  | non => exact .base .non
  | bl b => exact .base (.bl b)
  | int i => exact .base (.int i)
  | str z => exact .base (.str z)
  | lst h a => exact tyL h
  | tup h a => exact tyT h
def isT : PyData → Bool
  | .tuple _ => true
  | _ => false
def isI : PyData → Bool
  | .int _ => true
  | .bool _ => true
  | _ => false
def isB : PyData → Bool
  | .bool _ => true
  | _ => false
theorem kit_tup {K : PySem.W.Frag} {H : Hp} {v : V} {d : PyData} (h : Dp K H v d) : kitB (tyD d) "tuple" = some (isT d) := by
  cases h with
  | non => exact (show kitB "NoneType" "tuple" = some false by decide +kernel)
  | bl _ => exact (show kitB "bool" "tuple" = some false by decide +kernel)
  | int _ => exact (show kitB "int" "tuple" = some false by decide +kernel)
  | str _ => exact (show kitB "str" "tuple" = some false by decide +kernel)
  | lst _ _ => exact (show kitB "list" "tuple" = some false by decide +kernel)
  | tup _ _ => exact (show kitB "tuple" "tuple" = some true by decide +kernel)
theorem kit_intD {K : PySem.W.Frag} {H : Hp} {v : V} {d : PyData} (h : Dp K H v d) : kitB (tyD d) "int" = some (isI d) := by
  cases h with
  | non => exact (show kitB "NoneType" "int" = some false by decide +kernel)
  | bl _ => exact (show kitB "bool" "int" = some true by decide +kernel)
  | int _ => exact (show kitB "int" "int" = some true by decide +kernel)
  | str _ => exact (show kitB "str" "int" = some false by decide +kernel)
  | lst _ _ => exact (show kitB "list" "int" = some false by decide +kernel)
  | tup _ _ => exact (show kitB "tuple" "int" = some false by decide +kernel)
theorem kit_boolD {K : PySem.W.Frag} {H : Hp} {v : V} {d : PyData} (h : Dp K H v d) : kitB (tyD d) "bool" = some (isB d) := by
  cases h with
  | non => exact (show kitB "NoneType" "bool" = some false by decide +kernel)
  | bl _ => exact (show kitB "bool" "bool" = some true by decide +kernel)
  | int _ => exact (show kitB "int" "bool" = some false by decide +kernel)
  | str _ => exact (show kitB "str" "bool" = some false by decide +kernel)
  | lst _ _ => exact (show kitB "list" "bool" = some false by decide +kernel)
  | tup _ _ => exact (show kitB "tuple" "bool" = some false by decide +kernel)
def spIsNum (K : PySem.W.Frag) : Sp := fun vs H Q _ => ∃ (v : V) (d : PyData), vs = [v] ∧ Dp K H v d ∧ Q (.bl (numB d)) H
section
variable {P : Program} {w : World} {K : PySem.W.Frag} {mg : Str → Option Value} {base : Heap}
theorem ok_is_number (T : Nu mg) (D : Dd K mg "is_number" s_is_number P_is_number) : C8.Cal P w K mg base 1 "is_number" (spIsNum K) [] := by
  refine D.cal sc_is_number (fun vs H Q E h => ?_) (fun f cdv A outer s H vs Q E hr h => ?_)
  · obtain ⟨v, d, rfl, _⟩ := h
    rfl
  · obtain ⟨v, d, rfl, hd, q⟩ := h
    refine ⟨_, (pss_one (ps_ret (pe_and (pe_callB call_isi (by rfl) T.isinstance (by decide +kernel) (pa_cons (pv 0) (pa_cons (pe_bltn (v := .ty "int") rfl T.int (by decide +kernel) rfl) pa_nil))) (pe_and (pe_not (pe_callB call_isi (by rfl) T.isinstance (by decide +kernel) (pa_cons (pv 0) (pa_cons (pe_bltn (v := .ty "bool") rfl T.bool (by decide +kernel) rfl) pa_nil)))) (pe_one (pe_cmpR op_ge (pv 0) pe_int (nomark _))))))), ?_⟩
    refine ⟨_, rfl, v, .ty "int", .type (tyD d), .type "int", _, rfl, .ty "int", dp_tyD hd, kit_ty (kit_intD hd), _, rfl, ?_⟩
    cases hd with
    | int i =>
      refine iteT ?_
      refine ⟨_, rfl, .int i, .ty "bool", .type "int", .type "bool", false, rfl, .ty "bool", .base (.int i), kit_ty (by decide +kernel), _, rfl, _, rfl, iteT ?_⟩
      exact ⟨_, rfl, _, _, rfl, rfl, q⟩
    | bl b =>
      refine iteT ?_
      exact ⟨_, rfl, .bl b, .ty "bool", .type "bool", .type "bool", true, rfl, .ty "bool", .base (.bl b), kit_ty (by decide +kernel), _, rfl, _, rfl, iteF q⟩
    | non => exact iteF q
    | str z => exact iteF q
    | lst h a => exact iteF q
    | tup h a => exact iteF q
end
/-! ### the eighteen errors: what __init__ leaves -/
def spOneD (K : PySem.W.Frag) (C : Addr) (f : Str) (n : Nat) : Sp := fun vs H Q _ => ∃ (e : Addr) (x : V) (d : PyData), vs = [.ref e, x] ∧ Dp K H x d ∧ Sm n d ∧ H e = some (exo e C none) ∧
  ∀ (H' : Hp) (dd : Addr) (y : V), H dd = none → dd ≠ e → H' e = some (exo e C (some dd)) → H' dd = some (exd dd [(f, y)]) → But e H H' → Dp K (Nw H H') y d → Q .non H'
def spTwoD (K : PySem.W.Frag) (C : Addr) (f1 f2 : Str) (n : Nat) : Sp := fun vs H Q _ => ∃ (e : Addr) (x1 x2 : V) (d1 d2 : PyData), vs = [.ref e, x1, x2] ∧ Dp K H x1 d1 ∧ Sm n d1 ∧ Dp K H x2 d2 ∧ Sm n d2 ∧ H e = some (exo e C none) ∧
  ∀ (H' : Hp) (dd : Addr) (y1 y2 : V), H dd = none → dd ≠ e → H' e = some (exo e C (some dd)) → H' dd = some (exd dd [(f2, y2), (f1, y1)]) → But e H H' → Dp K (Nw H H') y1 d1 → Dp K (Nw H H') y2 d2 → Q .non H'
abbrev s_NoNode : Stmt := inClass (top 4) 0
abbrev N_NoNode : List Str := ["self", "path"]
theorem sc_NoNode : FnScope N_NoNode N_NoNode (defScope s_NoNode) := ⟨rfl, rfl, rfl, by decide +kernel, rfl, by decide +kernel, by decide +kernel⟩
section
variable {K : PySem.W.Frag} {H H' : Hp} {e C : Addr}
theorem exo_lst {od : Option Addr} {xs : List V} : exo e C od ≠ .lst xs := fun z => by
  have z' : HO.ext _ = HO.lst xs := z
  cases z'
theorem exo_tup' {od : Option Addr} {xs : List V} : exo e C od ≠ .tup xs := fun z => by
  have z' : HO.ext _ = HO.tup xs := z
  cases z'
theorem exo_frz' {od : Option Addr} {o : Obj} {v : HO} : exo e C od ≠ .frz o v := fun z => by
  have z' : HO.ext _ = HO.frz o v := z
  cases z'
theorem off_exo {od : Option Addr} {a : Addr} {o : HO} (he : H e = some (exo e C od)) (h : H a = some o) (n : exo e C od ≠ o) : a ≠ e := fun z => by
  rw [z, he] at h
  exact n (Option.some.inj h)
mutual
theorem dp_but {od : Option Addr} (he : H e = some (exo e C od)) (s : But e H H') : ∀ {v : V} {d : PyData}, Dp K H v d → Dp K H' v d
  | _, _, .non => .non
  | _, _, .bl b => .bl b
  | _, _, .int i => .int i
  | _, _, .str x => .str x
  | _, _, .lst h a => .lst (by
    rcases h with (h | ⟨o, h⟩) | h
    · exact .inl (.inl (s _ _ (off_exo he h exo_lst) h))
    · exact .inl (.inr ⟨o, s _ _ (off_exo he h exo_frz') h⟩)
    · exact .inr h) (dpAll_but he s a)
  | _, _, .tup h a => .tup (by
    rcases h with (h | ⟨o, h⟩) | h
    · exact .inl (.inl (s _ _ (off_exo he h exo_tup') h))
    · exact .inl (.inr ⟨o, s _ _ (off_exo he h exo_frz') h⟩)
    · exact .inr h) (dpAll_but he s a)
theorem dpAll_but {od : Option Addr} (he : H e = some (exo e C od)) (s : But e H H') : ∀ {vs : List V} {ds : List PyData}, DpAll K H vs ds → DpAll K H' vs ds
  | _, _, .nil => .nil
  | _, _, .cons h a => .cons (dp_but he s h) (dpAll_but he s a)
end
end
section
variable {K : PySem.W.Frag} {C : Addr} {B : String} {n : Nat}
theorem one_left {f : Str} {m : Str} {Q : VK} {H : Hp} {e : Addr} {x : V} {d : PyData} (O : OxC K C B) (h1 : PySem.W.findIn K (.ref C) f = some none) (hx : Dp K H x d) (hs : Sm n d) (he : H e = some (exo e C none))
    (q : ∀ (H' : Hp) (dd : Addr) (y : V), H dd = none → dd ≠ e → H' e = some (exo e C (some dd)) → H' dd = some (exd dd [(f, y)]) → But e H H' → Dp K (Nw H H') y d → Q .non H') :
    tSeq (tDrop (tBI K B (tCons (tVar 0) (tCons (tC (.str m)) tNil)))) (tOxs K f (tVar 0) (tCall (spOwnD K n) [] E0 (tCons (tVar 1) tNil))) { nx := fun _ H' => Q .non H', rt := Q } [some (.ref e), some x] H := by
  refine ⟨_, rfl, e, C, _, rfl, by show 1 ≤ 1000; decide, O, he, ?_⟩
  refine ⟨_, rfl, x, d, rfl, hx, hs, fun H1 y s1 hy => ?_⟩
  refine ⟨_, rfl, e, C, B, rfl, O, h1, .inl ⟨s1 _ _ he, fun dd nd nde => ?_⟩⟩
  refine q _ dd y (s1.free nd) nde upd_same (by rw [upd_ne nde, upd_same]) (fun z o nz hz => ?_) (dp_same (fun z o hz => ?_) hy)
  · rw [upd_ne nz, upd_ne (ne_of_none (s1 _ _ hz) nd)]
    exact s1 _ _ hz
  · obtain ⟨e1, e2⟩ := Nw.get hz
    exact Nw.mk e1 (by rw [upd_ne (fun z2 => by rw [z2, he] at e1; cases e1), upd_ne (ne_of_none e2 nd)]; exact e2)
theorem two_left {f1 f2 : Str} {m : Str} {Q : VK} {H : Hp} {e : Addr} {x1 x2 : V} {d1 d2 : PyData} (O : OxC K C B) (h1 : PySem.W.findIn K (.ref C) f1 = some none) (h2 : PySem.W.findIn K (.ref C) f2 = some none) (hx1 : Dp K H x1 d1) (hs1 : Sm n d1) (hx2 : Dp K H x2 d2) (hs2 : Sm n d2) (he : H e = some (exo e C none))
    (q : ∀ (H' : Hp) (dd : Addr) (y1 y2 : V), H dd = none → dd ≠ e → H' e = some (exo e C (some dd)) → H' dd = some (exd dd [(f2, y2), (f1, y1)]) → But e H H' → Dp K (Nw H H') y1 d1 → Dp K (Nw H H') y2 d2 → Q .non H') :
    tSeq (tDrop (tBI K B (tCons (tVar 0) (tCons (tC (.str m)) tNil)))) (tSeq (tOxs K f1 (tVar 0) (tCall (spOwnD K n) [] E0 (tCons (tVar 1) tNil))) (tOxs K f2 (tVar 0) (tCall (spOwnD K n) [] E0 (tCons (tVar 2) tNil)))) { nx := fun _ H' => Q .non H', rt := Q } [some (.ref e), some x1, some x2] H := by
  refine ⟨_, rfl, e, C, _, rfl, by show 1 ≤ 1000; decide, O, he, ?_⟩
  refine ⟨_, rfl, x1, d1, rfl, hx1, hs1, fun H1 y1 s1 hy1 => ?_⟩
  refine ⟨_, rfl, e, C, B, rfl, O, h1, .inl ⟨s1 _ _ he, fun dd nd nde => ?_⟩⟩
  have b1 : But e H (upd (upd H1 dd (exd dd [(f1, y1)])) e (exo e C (some dd))) := fun z o nz hz => by
    rw [upd_ne nz, upd_ne (ne_of_none (s1 _ _ hz) nd)]
    exact s1 _ _ hz
  refine ⟨_, rfl, x2, d2, rfl, ?_, hs2, fun H2 y2 s2 hy2 => ?_⟩
  · exact dp_but he b1 hx2
  have e2 : H2 e = some (exo e C (some dd)) := s2 _ _ upd_same
  have g2 : H2 dd = some (exd dd [(f1, y1)]) := s2 _ _ (by rw [upd_ne nde, upd_same])
  refine ⟨_, rfl, e, C, B, rfl, O, h2, .inr ⟨dd, _, e2, g2, by show 1 ≤ 900; decide, ?_⟩⟩
  refine q _ dd y1 y2 (s1.free nd) nde (by rw [upd_ne nde.symm]; exact e2) upd_same (fun z o nz hz => ?_) (dp_same (fun z o hz => ?_) hy1) (dp_same (fun z o hz => ?_) hy2)
  · rw [upd_ne (ne_of_none (s1 _ _ hz) nd)]
    exact s2 _ _ (b1 _ _ nz hz)
  · obtain ⟨w1, w2⟩ := Nw.get hz
    have nze : z ≠ e := fun z2 => by
      rw [z2, he] at w1
      cases w1
    have nzd : z ≠ dd := ne_of_none w2 nd
    exact Nw.mk w1 (by rw [upd_ne nzd]; exact s2 _ _ (by rw [upd_ne nze, upd_ne nzd]; exact w2))
  · obtain ⟨w1, w2⟩ := Nw.get hz
    have nze : z ≠ e := fun z2 => by
      rw [z2, upd_same] at w1
      cases w1
    have nzd : z ≠ dd := fun z2 => by
      rw [z2, upd_ne nde, upd_same] at w1
      cases w1
    rw [upd_ne nze, upd_ne nzd] at w1
    exact Nw.mk (s1.free w1) (by rw [upd_ne nzd]; exact w2)
end
section
variable {P : Program} {w : World} {K : PySem.W.Frag} {mg : Str → Option Value} {base : Heap} {C : Addr}
theorem ok_NoNode {n : Nat} {f : Addr} {fd : FuncData} (cown_copy : C8.Cal P w K mg base (n + 1) "own_copy" (spOwnD K n) []) (F : L2.Fun K "__init__" "NoNode.__init__" s_NoNode f fd) (O : OxC K C "IndexError") (b : BInit K "IndexError") (mV : mg "IndexError" = none) (h1 : PySem.W.findIn K (.ref C) "path" = some none) :
    FnOk P w K mg base CX0 (n + 2) f fd N_NoNode (spOneD K C "path" n) := by
  refine F.ok sc_NoNode (fun vs H Q E h => ?_) (fun cdv A outer s H vs Q E hr h => ?_)
  · obtain ⟨e, x, d, rfl, _⟩ := h
    rfl
  · obtain ⟨e, x, d, rfl, hx, hs, he, q⟩ := h
    refine ⟨_, pss_cons (ps_expr (pe_binit b (by rfl) mV (pa_cons (pv 0) (pa_cons pe_str pa_nil)))) (pss_one (ps_oxs (pv 0) (C8.pe_c cown_copy hr (by omega) (by rfl) (pa_cons (pv 1) pa_nil)))), ?_⟩
    exact one_left O h1 hx hs he q
end
/-! ### errors held as values, and what they bear -/
def SeqO (o : HO) : Prop := (∃ xs, o = .lst xs) ∨ (∃ xs, o = .tup xs) ∨ ∃ o' v, o = .frz o' v
section
variable {K : PySem.W.Frag} {H H' : Hp}
mutual
theorem dp_tr (s : ∀ a o, SeqO o → H a = some o → H' a = some o) : ∀ {v : V} {d : PyData}, Dp K H v d → Dp K H' v d
  | _, _, .non => .non
  | _, _, .bl b => .bl b
  | _, _, .int i => .int i
  | _, _, .str x => .str x
  | _, _, .lst h a => .lst (by
    rcases h with (h | ⟨o, h⟩) | h
    · exact .inl (.inl (s _ _ (.inl ⟨_, rfl⟩) h))
    · exact .inl (.inr ⟨o, s _ _ (.inr (.inr ⟨_, _, rfl⟩)) h⟩)
    · exact .inr h) (dpAll_tr s a)
  | _, _, .tup h a => .tup (by
    rcases h with (h | ⟨o, h⟩) | h
    · exact .inl (.inl (s _ _ (.inr (.inl ⟨_, rfl⟩)) h))
    · exact .inl (.inr ⟨o, s _ _ (.inr (.inr ⟨_, _, rfl⟩)) h⟩)
    · exact .inr h) (dpAll_tr s a)
theorem dpAll_tr (s : ∀ a o, SeqO o → H a = some o → H' a = some o) : ∀ {vs : List V} {ds : List PyData}, DpAll K H vs ds → DpAll K H' vs ds
  | _, _, .nil => .nil
  | _, _, .cons h a => .cons (dp_tr s h) (dpAll_tr s a)
end
theorem exd_seq {d : Addr} {fs : List (Str × V)} : ¬ SeqO (exd d fs) := by
  rintro (⟨xs, z⟩ | ⟨xs, z⟩ | ⟨o', v, z⟩)
  · have z' : HO.ext _ = HO.lst xs := z
    cases z'
  · have z' : HO.ext _ = HO.tup xs := z
    cases z'
  · have z' : HO.ext _ = HO.frz o' v := z
    cases z'
theorem exo_seq {e C : Addr} {od : Option Addr} : ¬ SeqO (exo e C od) := by
  rintro (⟨xs, z⟩ | ⟨xs, z⟩ | ⟨o', v, z⟩)
  · exact exo_lst z
  · exact exo_tup' z
  · exact exo_frz' z
/-- an error of the class at C, its fields -/
def ErAt (H : Hp) (e C : Addr) (fs : List (Str × V)) : Prop := ∃ d, H e = some (exv e C d) ∧ H d = some (.xd fs)
theorem ErAt.same {e C : Addr} {fs : List (Str × V)} (h : ErAt H e C fs) (s : Same H H') : ErAt H' e C fs := by
  obtain ⟨d, h1, h2⟩ := h
  exact ⟨d, s _ _ h1, s _ _ h2⟩
/-- behind the making -/
theorem made_same {e C dd : Addr} {fs gs : List (Str × V)} (ne : H e = none) (nd : (upd H e (exo e C none)) dd = none) (b : But e (upd H e (exo e C none)) H') : Same H (upd (upd H' e (exv e C dd)) dd (.xd fs)) := fun z o hz => by
  have nze : z ≠ e := ne_of_none hz ne
  have hz2 : (upd H e (exo e C none)) z = some o := by
    rw [upd_ne nze]
    exact hz
  rw [upd_ne (ne_of_none hz2 nd), upd_ne nze]
  exact b _ _ nze hz2
theorem made_dp {e C dd : Addr} {fs gs : List (Str × V)} {y : V} {d : PyData} (he : H' e = some (exo e C (some dd))) (hd : H' dd = some (exd dd gs)) (h : Dp K (Nw (upd H e (exo e C none)) H') y d) : Dp K (upd (upd H' e (exv e C dd)) dd (.xd fs)) y d :=
  dp_tr (fun a o so ha => by
    obtain ⟨_, h2⟩ := Nw.get ha
    have n1 : a ≠ e := fun z => by
      rw [z, he] at h2
      cases h2
      exact exo_seq so
    have n2 : a ≠ dd := fun z => by
      rw [z, hd] at h2
      cases h2
      exact exd_seq so
    rw [upd_ne n2, upd_ne n1]
    exact h2) h
theorem mkv_one {C : Addr} {f : Str} {n : Nat} {x : V} {d : PyData} {Q : VK} (hx : Dp K H x d) (hs : Sm n d) (q : ∀ (G : Hp) (e : Addr) (y : V), Same H G → ErAt G e C [(f, y)] → Dp K G y d → Q (.ref e) G) :
    ∀ e, H e = none → spOneD K C f n [.ref e, x] (upd H e (exo e C none)) (fun v H2 => v = .non ∧ ∃ (d : Addr) (fs : List (Str × V)), H2 e = some (exo e C (some d)) ∧ H2 d = some (exd d fs) ∧ Q (.ref e) (upd (upd H2 e (exv e C d)) d (.xd fs))) (fun _ _ _ => False) := by
  intro e ne
  refine ⟨e, x, d, rfl, dp_same (same_upd ne) hx, hs, upd_same, fun H' dd y nd nde he hd b hy => ⟨rfl, dd, _, he, hd, ?_⟩⟩
  refine q _ e y (made_same (gs := []) ne nd b) ⟨dd, by rw [upd_ne nde.symm, upd_same], upd_same⟩ (made_dp he hd hy)
theorem mkv_two {C : Addr} {f1 f2 : Str} {n : Nat} {x1 x2 : V} {d1 d2 : PyData} {Q : VK} (hx1 : Dp K H x1 d1) (hs1 : Sm n d1) (hx2 : Dp K H x2 d2) (hs2 : Sm n d2)
    (q : ∀ (G : Hp) (e : Addr) (y1 y2 : V), Same H G → ErAt G e C [(f2, y2), (f1, y1)] → Dp K G y1 d1 → Dp K G y2 d2 → Q (.ref e) G) :
    ∀ e, H e = none → spTwoD K C f1 f2 n [.ref e, x1, x2] (upd H e (exo e C none)) (fun v H2 => v = .non ∧ ∃ (d : Addr) (fs : List (Str × V)), H2 e = some (exo e C (some d)) ∧ H2 d = some (exd d fs) ∧ Q (.ref e) (upd (upd H2 e (exv e C d)) d (.xd fs))) (fun _ _ _ => False) := by
  intro e ne
  refine ⟨e, x1, x2, d1, d2, rfl, dp_same (same_upd ne) hx1, hs1, dp_same (same_upd ne) hx2, hs2, upd_same, fun H' dd y1 y2 nd nde he hd b hy1 hy2 => ⟨rfl, dd, _, he, hd, ?_⟩⟩
  exact q _ e y1 y2 (made_same (gs := []) ne nd b) ⟨dd, by rw [upd_ne nde.symm, upd_same], upd_same⟩ (made_dp he hd hy1) (made_dp he hd hy2)
end
/-! ### the way to a node -/
abbrev s_way_to : Stmt := top 8
abbrev N_way_to : List Str := ["tree", "path", "nodes", "place", "parts"]
abbrev P_way_to : List Str := ["tree", "path"]
theorem sc_way_to : FnScope N_way_to P_way_to (defScope s_way_to) := ⟨rfl, rfl, rfl, by decide +kernel, rfl, by decide +kernel, by decide +kernel⟩
abbrev s_part_at : Stmt := top 9
abbrev N_part_at : List Str := ["tree", "path"]
abbrev P_part_at : List Str := ["tree", "path"]
theorem sc_part_at : FnScope N_part_at P_part_at (defScope s_part_at) := ⟨rfl, rfl, rfl, by decide +kernel, rfl, by decide +kernel, by decide +kernel⟩
def tCallT (sp : Sp) (dvs : List V) (W : WX) (t : TA) : TE := fun σ H Q => t σ H fun vs H1 => sp (vs ++ dvs) H1 Q (WE W σ)
section
variable {X : Cx} {k j : Nat} {x : Str} {sp : Sp} {p pos : Pos} {e : Expr} {es : List Expr} {t : TA} {dvs : List V}
theorem pe_cT {W : WX} (c : CalX X.prog X.w X.K X.mg X.base k x sp dvs) (hr : Room j X.A) (hk : k ≤ j) (hg : Gl X x) (tkw : Takes X W) (ha : PA X (e :: es) t) (hdb : (x == ("__debug__" : Str)) = false := by decide)
    (he : starEach (e :: es) X.env = (false, eval e X.env) :: starEach es X.env := by rfl) (hpl : (backTo pos (starEach es X.env)).any (·.1) = false := by rfl) :
    PE X (.Call (.Name x p) (e :: es) [] pos) (tCallT sp dvs W t) := by
  obtain ⟨f, fd, ps, ds, F, hm, kp, b, d⟩ := c.ex
  refine ⟨fun pins s σ H Q I h => wpAny_Call_Name_kw (ld_glob I hg hm ?_ hdb)⟩
  refine PySem.W.callWith_K (h₀ := X.base) I.ok.mod.kin kp (thn (ha.run pos pins s σ H _ I h) fun us s1 ⟨vs, H1, I1, r, q⟩ => ⟨I1.kIn, ?_⟩) he hpl
  have r2 : Vals (vs ++ dvs) (us ++ ds) := Vals.append r d
  have hl : (us ++ ds).length = ps.length := by
    rw [← r2.length]
    exact F.len _ _ _ _ q
  refine wpAny_call (codeAny_mono (F.run X.A X.stack s1 H1 ⟨us, []⟩ (us ++ ds) (vs ++ dvs) Q (WE W σ) (hr.mono hk) I1.env0 (b s1 us I1.kIn hl) r2 q) fun res s' hq => ?_)
  cases res with
  | error er => exact passAt tkw σ pins H1 s1 er s' I1 hq
  | ok fl =>
    cases fl with
    | ret u => exact I1.after hq
    | next => exact hq.elim
    | brk => exact hq.elim
    | cont => exact hq.elim
end
structure OxD (K : PySem.W.Frag) (mg : Str → Option Value) (C : Addr) (B : String) (x qual : Str) (st : Stmt) (ps : List Str) : Prop where
  ex : ∃ (f : Addr) (fd : FuncData), L2.Fun K "__init__" qual st f fd ∧ Binds K fd ps [] ∧ PySem.W.findIn K (.ref C) "__init__" = some (some (.ref f)) ∧ PySem.W.typeIn K (.ref f) = some (.type "function")
  ox : OxC K C B
  mg : mg x = some (.ref C)
/-- what is wished for where no node is there -/
def NoWay (K : PySem.W.Frag) (C : Addr) (H : Hp) (d : PyData) (E : XK) : Prop := ∀ (H' : Hp) (dd : Addr) (y : V), Same H H' → H dd = none → H' dd = some (.xd [("path", y)]) → Dp K (Nw H H') y d → E (.ref C) (some dd) H'
def spWay (K : PySem.W.Frag) (C : Addr) : Sp := fun vs H Q E => ∃ (v x : V) (t d : PyData) (n k : Nat), vs = [v, x] ∧ Dp K H v t ∧ Tr n k t ∧ Dp K H x d ∧ Sm 6 d ∧
  ((thereD t d = true ∧ ∀ (H' : Hp) (L : Addr) (ws : List V) (ps : List PyData), d = .tuple ps → Same H H' → H L = none → H' L = some (.lst ws) → ws.length = ps.length + 1 →
      (∀ i u, ws[i]? = some u → ∃ tu n' k', goD t (ps.take i) = some tu ∧ Dp K H u tu ∧ Tr n' k' tu) → Q (.ref L) H') ∨ (thereD t d = false ∧ NoWay K C H d E))
def spPart (K : PySem.W.Frag) (C : Addr) : Sp := fun vs H Q E => ∃ (v x : V) (t d : PyData) (n k : Nat), vs = [v, x] ∧ Dp K H v t ∧ Tr n k t ∧ Dp K H x d ∧ Sm 6 d ∧
  ((thereD t d = true ∧ ∀ (H' : Hp) (u : V), Same H H' → Q u H') ∨ (thereD t d = false ∧ NoWay K C H d E))
theorem NoWay.grow {K : PySem.W.Frag} {C : Addr} {H H2 : Hp} {d : PyData} {E : XK} (h : NoWay K C H d E) (s : Same H H2) : NoWay K C H2 d E := fun H' dd y s2 nd e hy => h H' dd y (s.trans s2) (s.free nd) e (dp_same (fun b o z => by
  obtain ⟨z1, z2⟩ := Nw.get z
  exact Nw.mk (s.free z1) z2) hy)
theorem at_last {ws : List V} {i : Nat} {u : V} (h : ws.length = i + 1) (e : ws[i]? = some u) : atI ws (-1) = some u := by
  unfold atI ixN
  rw [if_neg (by decide), if_pos (by omega)]
  show ws[(-1 + (ws.length : Int)).toNat]? = some u
  have : (-1 + (ws.length : Int)).toNat = i := by omega
  rw [this]
  exact e
section
variable {P : Program} {w : World} {K : PySem.W.Frag} {mg : Str → Option Value} {base : Heap} {C : Addr}
/-- the error is made and raised -/
theorem raise_left {H : Hp} {x : V} {d : PyData} {E : XK} {R : Hp → Addr → List (Str × V) → Prop} (hx : Dp K H x d) (hs : Sm 6 d) (hE : NoWay K C H d E) {a : Addr} (na : H a = none)
    (hR : ∀ H' dd y, H dd = none → dd ≠ a → H' a = some (exo a C (some dd)) → H' dd = some (exd dd [("path", y)]) → E (.ref C) (some dd) (upd (del H' a) dd (.xd [("path", y)])) → R H' dd [("path", y)]) :
    spOneD K C "path" 6 [.ref a, x] (upd H a (exo a C none)) (fun v H2 => v = .non ∧ ∃ dd fs, R H2 dd fs) (fun _ _ _ => False) := by
  refine ⟨a, x, d, rfl, dp_same (same_upd na) hx, hs, upd_same, fun H' dd y nd nda ha hd2 hb hy => ⟨rfl, dd, _, hR H' dd y ?_ nda ha hd2 ?_⟩⟩
  · rw [upd_ne nda] at nd
    exact nd
  · rw [upd_ne nda] at nd
    refine hE _ dd y (fun b o e => ?_) nd upd_same (dp_tr (fun b o so e => ?_) hy)
    · have nba : b ≠ a := ne_of_none e na
      rw [upd_ne (ne_of_none e nd), del_ne nba]
      refine hb _ _ nba ?_
      rw [upd_ne nba]
      exact e
    · obtain ⟨e1, e2⟩ := Nw.get e
      have nba : b ≠ a := fun z => by
        rw [z, upd_same] at e1
        cases e1
      have nbd : b ≠ dd := fun z => by
        rw [z, hd2] at e2
        cases e2
        exact exd_seq so
      rw [upd_ne nba] at e1
      exact Nw.mk e1 (by rw [upd_ne nbd, del_ne nba]; exact e2)
theorem ok_way_to (T : Nu mg) (cis_number : C8.Cal P w K mg base 1 "is_number" (spIsNum K) []) (N : OxD K mg C "IndexError" "NoNode" "NoNode.__init__" s_NoNode N_NoNode)
    (nl : ∀ f fd, L2.Fun K "__init__" "NoNode.__init__" s_NoNode f fd → FnOk P w K mg base CX0 8 f fd N_NoNode (spOneD K C "path" 6)) (D : Dd K mg "way_to" s_way_to P_way_to) : CalX P w K mg base 10 "way_to" (spWay K C) [] := by
  obtain ⟨f, fd, F, g, b⟩ := D.ex
  obtain ⟨fN, fdN, FF, bN, iN, tN⟩ := N.ex
  have FN := nl _ _ FF
  refine ⟨f, fd, _, [], F.okX sc_way_to (fun vs H Q E h => ?_) (fun cdv A' outer s H vs Q E hr h => ?_), g, F.kp, b, .nil⟩
  · obtain ⟨v, x, t, d, n, k, rfl, _⟩ := h
    rfl
  · obtain ⟨v, x, t, d, n, k, rfl, hv, tr, hx, hs, hq⟩ := h
    refine ⟨_, (pss_cons (ps_if (pt_not (pt_val (pe_callB call_isi (by rfl) T.isinstance (by decide +kernel) (pa_cons (pv 1) (pa_cons (pe_bltn (v := .ty "tuple") rfl T.tuple (by decide +kernel) rfl) pa_nil)))))
          (pss_one (ps_raise rfl (takes_of rfl rfl rfl rfl) (pmk_ox N.ox iN tN FN (hr.mono (by omega)) bN pass0 (by rfl) N.mg (pa_cons (pv 1) pa_nil))))
          pss_nil)
        (pss_cons (ps_set (i := 2) sc_way_to.nd rfl (Or.inl rfl) (pe_lst (pa_cons (pv 0) pa_nil)))
        (pss_cons (ps_for (passes_of rfl) rfl (pi_tup (pv 1)) (pg_name (i := 3) sc_way_to.nd rfl (Or.inl rfl))
          (pss_cons (ps_set (i := 4) sc_way_to.nd rfl (Or.inl rfl) (pe_ix ix_tup (pe_ix ix_list (pv 2) (pe_un un_neg pe_int) (fun _ _ => rfl)) pe_int (fun _ _ => rfl)))
        (pss_cons (ps_if (PW.pt (pw_or (pt_not (pt_val (C8.pe_c cis_number hr (by decide) (by rfl) (pa_cons (pv 3) pa_nil)))) (pw_or1 (pt_not (pt_chain op_le op_le pe_int (pv 3) (pe_callB call_len_seq (by rfl) T.len PySem.boot_len (pa_cons (pv 4) pa_nil)))))))
          (pss_one (ps_raise rfl (takes_of rfl rfl rfl rfl) (pmk_ox N.ox iN tN FN (hr.mono (by omega)) bN pass0 (by rfl) N.mg (pa_cons (pv 1) pa_nil))))
          pss_nil)
        (pss_one (ps_expr (pe_bm PySem.F.plainAttrs_list PySem.F.slot_list_append PySem.F.type_list_append mt_append (pv 2) (pa_cons (pe_ix ix_tup (pv 4) (pe_op op_sub (pv 3) pe_int) (fun _ _ => rfl)) pa_nil)))))))
        (pss_one (ps_ret (pv 2)))))), ?_⟩
    refine ⟨_, rfl, x, .ty "tuple", .type (tyD d), .type "tuple", _, rfl, .ty "tuple", dp_tyD hx, kit_ty (kit_tup hx), _, rfl, ?_⟩
    have bad : thereD t d = false → NoWay K C H d E := fun e => by
      rcases hq with ⟨h, _⟩ | ⟨_, h⟩
      · rw [e] at h
        cases h
      · exact h
    cases hx with
    | non => exact iteT ⟨_, rfl, by show 1 ≤ 1000; decide, fun a na => raise_left .non hs (bad rfl) na fun H' dd y nd nda ha hd2 hE' => ⟨ha, hd2, nd, hE'⟩⟩
    | bl b => exact iteT ⟨_, rfl, by show 1 ≤ 1000; decide, fun a na => raise_left (.bl b) hs (bad rfl) na fun H' dd y nd nda ha hd2 hE' => ⟨ha, hd2, nd, hE'⟩⟩
    | int i => exact iteT ⟨_, rfl, by show 1 ≤ 1000; decide, fun a na => raise_left (.int i) hs (bad rfl) na fun H' dd y nd nda ha hd2 hE' => ⟨ha, hd2, nd, hE'⟩⟩
    | str z => exact iteT ⟨_, rfl, by show 1 ≤ 1000; decide, fun a na => raise_left (.str z) hs (bad rfl) na fun H' dd y nd nda ha hd2 hE' => ⟨ha, hd2, nd, hE'⟩⟩
    | lst h a => exact iteT ⟨_, rfl, by show 1 ≤ 1000; decide, fun p np => raise_left (.lst h a) hs (bad rfl) np fun H' dd y nd nda ha hd2 hE' => ⟨ha, hd2, nd, hE'⟩⟩
    | tup hS hA =>
      rename_i c xs ds
      refine iteF ?_
      have lxs := dpAll_len hA
      have hds : ds.length ≤ 500 := by
        cases hs with
        | tup _ h _ => exact h
      refine ⟨_, rfl, by show 1 ≤ sizeLine; decide, fun L nL => ?_⟩
      have s1 := same_upd (o := .lst [v]) nL
      refine ⟨_, rfl, c, rfl, ⟨_, Same.seqT s1 hS⟩, for_tup (K := K) (a := c) (xs := xs) (fun i σ H3 => ∃ ws y3 y4, σ = [some v, some (.ref c), some (.ref L), y3, y4] ∧ Same H H3 ∧ H3 L = some (.lst ws) ∧ ws.length = i + 1 ∧ i ≤ ds.length ∧ ∀ j u, ws[j]? = some u → ∃ tu n' k', goD t (ds.take j) = some tu ∧ Dp K H u tu ∧ Tr n' k' tu)
        ⟨[v], none, none, rfl, s1, upd_same, rfl, Nat.zero_le _, fun j u e => ?_⟩ (fun i σ H3 _ ⟨_, _, _, _, s3, _⟩ => Same.seqT s3 hS) ?_ ?_⟩
      · match j, e with
        | 0, e => exact ⟨t, n, k, rfl, by rw [← Option.some.inj e]; exact hv, tr⟩
      · rintro i p σ H3 hp ⟨ws, y3, y4, rfl, s3, hL, hwl, hi, hws⟩
        have hi2 : i < ds.length := by
          rw [← lxs]
          exact (List.getElem?_eq_some_iff.mp hp).1
        obtain ⟨dp, hdp, hpd⟩ := dpAll_at hA hp
        have hil : i < ws.length := by omega
        obtain ⟨tu, n', k', hg, hu, htr⟩ := hws i ws[i] (by simp [hil])
        obtain ⟨q1, q2, y1, y2, us, eu, hS1, hS2, hA2, _⟩ := tr_heap htr hu
        have lw := dpAll_len hA2
        have hgs : goD t (ds.take (i + 1)) = stepD tu dp := by
          rw [List.take_add_one, hdp]
          show goD t (ds.take i ++ [dp]) = _
          rw [goD_snoc, hg]
        have out : stepD tu dp = none → NoWay K C H3 (.tuple ds) E := fun e => by
          refine (bad ?_).grow s3
          show (goD t ds).isSome = false
          have e2 := goD_none t (ds.take (i + 1)) (ds.drop (i + 1)) (hgs.trans e)
          rw [List.take_append_drop] at e2
          rw [e2]
          rfl
        have hx3 : Dp K H3 (.ref c) (.tuple ds) := dp_same s3 (.tup hS hA)
        have hlast : atI ws (-1) = some (.ref q1) := by
          rw [← eu]
          have e1 : ws[i]? = some ws[i] := by simp [hil]
          exact at_last hwl e1
        refine ⟨_, rfl, _, rfl, L, ws, _, .ref q1, rfl, rfl, SqL.of hL, hlast, q1, _, 2, .ref q2, rfl, rfl, Same.seqT s3 hS1, atI_nat (j := 2) rfl, ?_⟩
        refine ⟨_, rfl, p, dp, rfl, dp_same s3 hpd, _, rfl, ?_⟩
        cases hpd with
        | non => exact iteT (iteT ⟨_, rfl, by show 1 ≤ 1000; decide, fun a na => raise_left hx3 hs (out (rfl)) na fun H' dd y nd nda ha hd2 hE' => ⟨ha, hd2, nd, hE'⟩⟩)
        | bl b => exact iteT (iteT ⟨_, rfl, by show 1 ≤ 1000; decide, fun a na => raise_left hx3 hs (out (rfl)) na fun H' dd y nd nda ha hd2 hE' => ⟨ha, hd2, nd, hE'⟩⟩)
        | str z => exact iteT (iteT ⟨_, rfl, by show 1 ≤ 1000; decide, fun a na => raise_left hx3 hs (out (rfl)) na fun H' dd y nd nda ha hd2 hE' => ⟨ha, hd2, nd, hE'⟩⟩)
        | lst h a => exact iteT (iteT ⟨_, rfl, by show 1 ≤ 1000; decide, fun a na => raise_left hx3 hs (out (rfl)) na fun H' dd y nd nda ha hd2 hE' => ⟨ha, hd2, nd, hE'⟩⟩)
        | tup h a => exact iteT (iteT ⟨_, rfl, by show 1 ≤ 1000; decide, fun a na => raise_left hx3 hs (out (rfl)) na fun H' dd y nd nda ha hd2 hE' => ⟨ha, hd2, nd, hE'⟩⟩)
        | int j =>
          by_cases e0 : (0 : Int) ≤ j
          · refine ifF (by rw [show numB (.int j) = decide (0 ≤ j) from rfl, decide_eq_true e0]; rfl) ?_
            by_cases e1 : (1 : Int) ≤ j
            · refine ⟨_, rfl, _, _, rfl, rfl, _, rfl, ifT (decide_eq_true e1) ?_⟩
              refine ⟨_, rfl, q2, us, rfl, .inr (Same.seqT s3 hS2), _, _, rfl, rfl, _, rfl, ?_⟩
              by_cases e2 : j ≤ (us.length : Int)
              · rw [decide_eq_true e2]
                refine iteF ?_
                have hj : (j - 1).toNat < us.length := by omega
                obtain ⟨wv, hwv, hat⟩ := at_place hj e1
                obtain ⟨du, hdu, hwu⟩ := dpAll_at hA2 hwv
                have hst : stepD tu (.int j) = some du := by
                  show (if 1 ≤ j ∧ j ≤ (partsD tu).length then (partsD tu)[(j - 1).toNat]? else none) = _
                  rw [if_pos ⟨e1, by omega⟩]
                  exact hdu
                obtain ⟨n2, k2, _, htr2⟩ := htr.part hst
                refine ⟨_, rfl, .inl ⟨rfl, _, SqL.of hL⟩, _, rfl, _, rfl, _, _, rfl, rfl, q2, us, _, wv, rfl, rfl, Same.seqT s3 hS2, hat, ?_⟩
                refine ⟨L, ws, wv, rfl, rfl, hL, by rw [hwl]; exact small1000 (by omega), ?_⟩
                refine ⟨ws ++ [wv], _, _, rfl, Same.at_ s3 nL, upd_same, by rw [List.length_append, hwl]; rfl, by omega, fun m u e => ?_⟩
                by_cases hm : m < ws.length
                · rw [List.getElem?_append_left hm] at e
                  exact hws m u e
                · rw [List.getElem?_append_right (by omega)] at e
                  have em : m = i + 1 := by
                    cases e9 : m - ws.length with
                    | zero => omega
                    | succ r => rw [e9] at e; cases e
                  subst em
                  rw [show i + 1 - ws.length = 0 by omega] at e
                  cases e
                  exact ⟨du, n2, k2, hgs.trans hst, hwu, htr2⟩
              · rw [decide_eq_false e2]
                exact iteT ⟨_, rfl, by show 1 ≤ 1000; decide, fun a na => raise_left hx3 hs (out (show (if 1 ≤ j ∧ j ≤ (partsD tu).length then (partsD tu)[(j - 1).toNat]? else none) = none from if_neg (by omega))) na fun H' dd y nd nda ha hd2 hE' => ⟨ha, hd2, nd, hE'⟩⟩
            · exact ⟨_, rfl, _, _, rfl, rfl, _, rfl, ifF (decide_eq_false e1) ⟨_, rfl, iteT ⟨_, rfl, by show 1 ≤ 1000; decide, fun a na => raise_left hx3 hs (out (show (if 1 ≤ j ∧ j ≤ (partsD tu).length then (partsD tu)[(j - 1).toNat]? else none) = none from if_neg (by omega))) na fun H' dd y nd nda ha hd2 hE' => ⟨ha, hd2, nd, hE'⟩⟩⟩⟩
          · exact ifT (by rw [show numB (.int j) = decide (0 ≤ j) from rfl, decide_eq_false e0]; rfl) (iteT ⟨_, rfl, by show 1 ≤ 1000; decide, fun a na => raise_left hx3 hs (out (show (if 1 ≤ j ∧ j ≤ (partsD tu).length then (partsD tu)[(j - 1).toNat]? else none) = none from if_neg (by omega))) na fun H' dd y nd nda ha hd2 hE' => ⟨ha, hd2, nd, hE'⟩⟩)
      · rintro σ H3 ⟨ws, y3, y4, rfl, s3, hL, hwl, hi, hws⟩
        refine ⟨_, rfl, ?_⟩
        rw [lxs] at hwl
        rcases hq with ⟨_, q⟩ | ⟨h, _⟩
        · exact q _ L ws ds rfl s3 nL hL hwl hws
        · have e : (goD t ds).isSome = false := h
          have hil : ds.length < ws.length := by omega
          obtain ⟨tu, n', k', hg, _, _⟩ := hws ds.length ws[ds.length] (by simp [hil])
          rw [List.take_length] at hg
          rw [hg] at e
          cases e
end
/-! ### all nodes -/
abbrev s_walk_of : Stmt := top 6
abbrev N_walk_of : List Str := ["tree", "steps", "waiting", "path", "node", "parts", "at"]
abbrev P_walk_of : List Str := ["tree"]
theorem sc_walk_of : FnScope N_walk_of P_walk_of (defScope s_walk_of) := ⟨rfl, rfl, rfl, by decide +kernel, rfl, by decide +kernel, by decide +kernel⟩
abbrev s_nodes_of : Stmt := top 7
abbrev N_nodes_of : List Str := ["tree", "path", "node"]
abbrev P_nodes_of : List Str := ["tree"]
theorem sc_nodes_of : FnScope N_nodes_of P_nodes_of (defScope s_nodes_of) := ⟨rfl, rfl, rfl, by decide +kernel, rfl, by decide +kernel, by decide +kernel⟩
def kidsF : Nat → List Int → List PyData → List (List Int × PyData)
  | _, _, [] => []
  | i, p, d :: ds => (p ++ [(i : Int) + 1], d) :: kidsF (i + 1) p ds
def walkW : Nat → List (List Int × PyData) → List (List Int)
  | 0, _ => []
  | _ + 1, [] => []
  | c + 1, (p, t) :: st => p :: walkW c (kidsF 0 p (partsD t) ++ st)
/-- what waits: so many nodes in all, no path above B -/
inductive Stk (B : Nat) : Nat → List (List Int × PyData) → Prop where
  | nil : Stk B 0 []
  | cons {n k c : Nat} {p : List Int} {t : PyData} {st : List (List Int × PyData)} (h : Tr n k t) (hb : p.length + n ≤ B) (r : Stk B c st) : Stk B (k + c) ((p, t) :: st)
theorem Stk.kids {B n c : Nat} {p : List Int} {st : List (List Int × PyData)} (hb : p.length + 1 + n ≤ B) (r : Stk B c st) : ∀ {k i : Nat} {ds : List PyData}, TrAll n k ds → Stk B (k + c) (kidsF i p ds ++ st)
  | _, _, _, .nil n => by
    rw [Nat.zero_add]
    exact r
  | _, i, _, .cons h a => by
    rw [Nat.add_assoc]
    exact .cons h (by rw [List.length_append, List.length_singleton]; exact hb) (Stk.kids hb r a)
theorem Tr.pos {n k : Nat} {t : PyData} (h : Tr n k t) : 1 ≤ k := by
  cases h
  omega
theorem Stk.len {B c : Nat} {st : List (List Int × PyData)} (h : Stk B c st) : st.length ≤ c := by
  induction h with
  | nil => exact Nat.le_refl _
  | cons h hb r ih =>
    have := h.pos
    rw [List.length_cons]
    omega
theorem kidsF_len : ∀ (i : Nat) (p : List Int) (ds : List PyData), (kidsF i p ds).length = ds.length
  | _, _, [] => rfl
  | i, p, d :: ds => by
    show (kidsF (i + 1) p ds).length + 1 = _
    rw [kidsF_len]
    rfl
theorem kidsF_at : ∀ (i : Nat) (p : List Int) (ds : List PyData) (j : Nat) (d : PyData), ds[j]? = some d → (kidsF i p ds)[j]? = some (p ++ [((i + j : Nat) : Int) + 1], d)
  | i, p, d0 :: ds, 0, d, e => by
    cases e
    rfl
  | i, p, d0 :: ds, j + 1, d, e => by
    have h := kidsF_at (i + 1) p ds j d e
    show (kidsF (i + 1) p ds)[j]? = _
    rw [h, show i + 1 + j = i + (j + 1) by omega]
/-- paths told by walkW are not long -/
theorem walk_short {B : Nat} : ∀ (c : Nat) (st : List (List Int × PyData)), Stk B c st → ∀ p ∈ walkW c st, p.length ≤ B := by
  intro c
  induction c with
  | zero =>
    intro st _ p h
    cases h
  | succ c ih =>
    intro st h p hp
    cases st with
    | nil => cases hp
    | cons x st =>
      obtain ⟨p0, t⟩ := x
      generalize e : c + 1 = m at h
      cases h with
      | cons htr hb r =>
        cases htr with
        | mk hz h0 h1 hl ha =>
          rename_i k' n k z i ds
          have hc : c = k + k' := by omega
          rcases List.mem_cons.mp hp with rfl | hp
          · omega
          · refine ih _ ?_ p hp
            rw [hc]
            exact Stk.kids (by omega) r ha
theorem walkW_len : ∀ (c : Nat) (st : List (List Int × PyData)), (walkW c st).length ≤ c
  | 0, _ => Nat.le_refl _
  | _ + 1, [] => Nat.zero_le _
  | c + 1, (p, t) :: st => by
    show (walkW c _).length + 1 ≤ c + 1
    have := walkW_len c (kidsF 0 p (partsD t) ++ st)
    omega
def rCatNew (K : PySem.W.Frag) : V → V → Hp → VK → Prop := fun x y H Q => ∃ (a b : Addr) (xs ys : List V), x = .ref a ∧ y = .ref b ∧ SqT K H a xs ∧ SqT K H b ys ∧ ys ≠ [] ∧ xs.length + ys.length ≤ sizeLine ∧ ∀ (H' : Hp) (p : Addr), Same H H' → (p = b ∧ xs = [] ∧ H' = H ∨ H p = none ∧ H' p = some (.tup (xs ++ ys))) → Q (.ref p) H'
theorem op_catNew {X : Cx} : OpR X (binaryOp .Add) (rCatNew X.K) := by
  intro pins s σ H x y v u Q I rx ry h
  obtain ⟨a, b, xs, ys, ex, ey, hX, hY, hne, hl, q⟩ := h
  refine op_catA pins s σ H x y v u Q I rx ry ⟨a, b, xs, ys, ex, ey, hX, hY, hl, fun e => q H b (Same.refl H) (.inl ⟨rfl, e, rfl⟩), fun _ e => absurd e hne, fun _ _ p np => q _ p (same_upd np) (.inr ⟨np, upd_same⟩)⟩
def pathD (p : List Int) : PyData := .tuple (p.map PyData.int)
def spNodes (K : PySem.W.Frag) : Sp := fun vs H Q _ => ∃ (v : V) (t : PyData) (n k : Nat), vs = [v] ∧ Dp K H v t ∧ Tr n k t ∧ k ≤ 900 ∧ n ≤ 100 ∧
  ∀ (H' : Hp) (l : Addr) (ws : List V), Same H H' → H l = none → H' l = some (.lst ws) → DpAll K (Nw H H') ws ((walkW k [([], t)]).map pathD) → Q (.ref l) H'
/-- one that waits, or was taken -/
def Ew (K : PySem.W.Frag) (H G : Hp) (e : V) (pt : List Int × PyData) : Prop := ∃ (q : Addr) (pv nv : V), e = .ref q ∧ SqT K (Nw H G) q [pv, nv] ∧ Dp K (Nw H G) pv (pathD pt.1) ∧ Dp K H nv pt.2
theorem Ew.grow {K : PySem.W.Frag} {H G G' : Hp} {e : V} {pt : List Int × PyData} (h : Ew K H G e pt) (s : Same G G') : Ew K H G' e pt := by
  obtain ⟨q, pv, nv, h1, h2, h3, h4⟩ := h
  have s2 : Same (Nw H G) (Nw H G') := fun b o e => by
    obtain ⟨e1, e2⟩ := Nw.get e
    exact Nw.mk e1 (s _ _ e2)
  exact ⟨q, pv, nv, h1, Same.seqT s2 h2, dp_same s2 h3, h4⟩
inductive Ews (K : PySem.W.Frag) (H G : Hp) : List V → List (List Int × PyData) → Prop where
  | nil : Ews K H G [] []
  | cons {e : V} {x : List Int × PyData} {es : List V} {xs : List (List Int × PyData)} (h : Ew K H G e x) (r : Ews K H G es xs) : Ews K H G (e :: es) (x :: xs)
section
variable {K : PySem.W.Frag} {H G G' : Hp}
theorem Ews.grow (s : Same G G') : ∀ {es : List V} {xs : List (List Int × PyData)}, Ews K H G es xs → Ews K H G' es xs
  | _, _, .nil => .nil
  | _, _, .cons h r => .cons (h.grow s) (Ews.grow s r)
theorem Ews.snoc : ∀ {es : List V} {xs : List (List Int × PyData)}, Ews K H G es xs → ∀ {e : V} {x : List Int × PyData}, Ew K H G e x → Ews K H G (es ++ [e]) (xs ++ [x])
  | _, _, .nil, _, _, h => .cons h .nil
  | _, _, .cons h0 r, _, _, h => .cons h0 (Ews.snoc r h)
theorem Ews.len : ∀ {es : List V} {xs : List (List Int × PyData)}, Ews K H G es xs → es.length = xs.length
  | _, _, .nil => rfl
  | _, _, .cons _ r => by rw [List.length_cons, List.length_cons, Ews.len r]
theorem Ews.at_ : ∀ {es : List V} {xs : List (List Int × PyData)}, Ews K H G es xs → ∀ {i : Nat} {e : V}, es[i]? = some e → ∃ x, xs[i]? = some x ∧ Ew K H G e x
  | _, _, .cons h _, 0, _, e => ⟨_, rfl, by rw [← Option.some.inj e]; exact h⟩
  | _, _, .cons _ r, i + 1, _, e => Ews.at_ r (i := i) e
theorem Ews.last {xs : List (List Int × PyData)} : ∀ {es : List V} {x : List Int × PyData}, Ews K H G es (xs ++ [x]) → ∃ es' e, es = es' ++ [e] ∧ Ews K H G es' xs ∧ Ew K H G e x := by
  induction xs with
  | nil =>
    intro es x h
    cases h with
    | cons h r =>
      cases r
      exact ⟨[], _, rfl, .nil, h⟩
  | cons y xs ih =>
    intro es x h
    cases h with
    | cons h r =>
      obtain ⟨es', e, h1, h2, h3⟩ := ih r
      exact ⟨_ :: es', e, by rw [h1]; rfl, .cons h h2, h3⟩
end
/-- all but two -/
def Off2 (a b : Addr) (H : Hp) : Hp := fun c => if c = a ∨ c = b then none else H c
theorem Off2.get {a b c : Addr} {H : Hp} {o : HO} (h : Off2 a b H c = some o) : c ≠ a ∧ c ≠ b ∧ H c = some o := by
  unfold Off2 at h
  split at h
  · cases h
  · rename_i n
    exact ⟨fun z => n (.inl z), fun z => n (.inr z), h⟩
theorem Off2.mk {a b c : Addr} {H : Hp} {o : HO} (n1 : c ≠ a) (n2 : c ≠ b) (h : H c = some o) : Off2 a b H c = some o := by
  unfold Off2
  rw [if_neg (by rintro (z | z); exact n1 z; exact n2 z)]
  exact h
theorem Off2.upd1 {a b : Addr} {H : Hp} {o : HO} : Same (Off2 a b H) (Off2 a b (upd H a o)) := fun c x e => by
  obtain ⟨n1, n2, h⟩ := Off2.get e
  exact Off2.mk n1 n2 (by rw [upd_ne n1]; exact h)
theorem Off2.upd2 {a b : Addr} {H : Hp} {o : HO} : Same (Off2 a b H) (Off2 a b (upd H b o)) := fun c x e => by
  obtain ⟨n1, n2, h⟩ := Off2.get e
  exact Off2.mk n1 n2 (by rw [upd_ne n2]; exact h)
theorem Off2.same {a b : Addr} {H H' : Hp} (s : Same H H') : Same (Off2 a b H) (Off2 a b H') := fun c x e => by
  obtain ⟨n1, n2, h⟩ := Off2.get e
  exact Off2.mk n1 n2 (s _ _ h)
theorem Off2.sub {a b : Addr} {H : Hp} : Same (Off2 a b H) H := fun c x e => (Off2.get e).2.2
structure Wk (mg : Str → Option Value) : Prop where
  reversed : mg "reversed" = none
  range : mg "range" = none
  len : mg "len" = none
def spWalk (K : PySem.W.Frag) : Sp := fun vs H Q _ => ∃ (v : V) (t : PyData) (n k : Nat), vs = [v] ∧ Dp K H v t ∧ Tr n k t ∧ k ≤ 900 ∧ n ≤ 100 ∧
  ∀ (H' : Hp) (l : Addr) (es : List V) (ps : List (List Int × PyData)), Same H H' → H l = none → H' l = some (.lst es) → ps.map (·.1) = walkW k [([], t)] → Ews K H H' es ps → Q (.ref l) H'
section
variable {P : Program} {w : World} {K : PySem.W.Frag} {mg : Str → Option Value} {base : Heap}
theorem ok_walk_of (T : Wk mg) (D : Dd K mg "walk_of" s_walk_of P_walk_of) : C8.Cal P w K mg base 1 "walk_of" (spWalk K) [] := by
  refine D.cal sc_walk_of (fun vs H Q E h => ?_) (fun f cdv A outer s H vs Q E hr h => ?_)
  · obtain ⟨v, t, n, k, rfl, _⟩ := h
    rfl
  · obtain ⟨v, t, n, k, rfl, hv, tr, hk, hn, q⟩ := h
    refine ⟨_, (pss_cons (ps_set (i := 1) sc_walk_of.nd rfl (Or.inl rfl) (pe_lst pa_nil))
        (pss_cons (ps_set (i := 2) sc_walk_of.nd rfl (Or.inl rfl) (pe_lst (pa_cons (pe_tup (pa_cons (pe_tup pa_nil) (pa_cons (pv 0) pa_nil))) pa_nil)))
        (pss_cons (ps_while PassesOwn.never (pt_truth (pv 2) (by intro _; rfl))
          (pss_cons (ps_asg (pe_bm0 PySem.F.plainAttrs_list PySem.F.slot_list_pop PySem.F.type_list_pop mt_pop (pv 2)) (pg_tup rfl (pgs_cons (pg_name (i := 3) sc_walk_of.nd rfl (Or.inl rfl)) (pgs_cons (pg_name (i := 4) sc_walk_of.nd rfl (Or.inl rfl)) pgs_nil))))
        (pss_cons (ps_expr (pe_bm PySem.F.plainAttrs_list PySem.F.slot_list_append PySem.F.type_list_append mt_append (pv 1) (pa_cons (pe_tup (pa_cons (pv 3) (pa_cons (pv 4) pa_nil))) pa_nil)))
        (pss_cons (ps_set (i := 5) sc_walk_of.nd rfl (Or.inl rfl) (pe_ix ix_tup (pv 4) pe_int (fun _ _ => rfl)))
        (pss_one (ps_for PassesOwn.never rfl (pi_revR (by rfl) T.reversed (prg_1 (by rfl) T.range (pe_callB call_len_seq (by rfl) T.len PySem.boot_len (pa_cons (pv 5) pa_nil)))) (pg_name (i := 6) sc_walk_of.nd rfl (Or.inl rfl))
          (pss_one (ps_expr (pe_bm PySem.F.plainAttrs_list PySem.F.slot_list_append PySem.F.type_list_append mt_append (pv 2) (pa_cons (pe_tup (pa_cons (pe_op op_catNew (pv 3) (pe_tup (pa_cons (pe_op op_add (pv 6) pe_int) pa_nil))) (pa_cons (pe_ix ix_tup (pv 5) (pv 6) (fun _ _ => rfl)) pa_nil))) pa_nil))))))))))
        (pss_one (ps_ret (pv 1)))))), ?_⟩
    refine ⟨by show 0 ≤ sizeLine; decide, fun S nS => ?_⟩
    refine ⟨by show 0 ≤ sizeLine; decide, fun p0 n0 => ⟨_, rfl, by show 2 ≤ sizeLine; decide, fun e0 m0 => ⟨by show 1 ≤ sizeLine; decide, fun W nW => ?_⟩⟩⟩
    have b1 := same_upd (o := .lst []) nS
    have b2 := same_upd (o := .tup []) n0
    have b3 := same_upd (o := .tup [.ref p0, v]) m0
    have b4 := same_upd (o := .lst [.ref e0]) nW
    have sI := ((b1.trans b2).trans b3).trans b4
    have nWH : H W = none := ((b1.trans b2).trans b3).free nW
    have n0H : H p0 = none := b1.free n0
    have m0H : H e0 = none := (b1.trans b2).free m0
    have hS0 := b4 _ _ (b3 _ _ (b2 _ _ (upd_same (H := H) (a := S) (o := .lst []))))
    have hp0 := b4 _ _ (b3 _ _ (upd_same (H := upd H S (.lst [])) (a := p0) (o := .tup [])))
    have he0 := b4 _ _ (upd_same (H := upd (upd H S (.lst [])) p0 (.tup [])) (a := e0) (o := .tup [.ref p0, v]))
    have nSW : S ≠ W := ne_of_none (b3 _ _ (b2 _ _ (upd_same (H := H) (a := S) (o := .lst [])))) nW
    have np0S : p0 ≠ S := fun z => by
      rw [z, upd_same] at n0
      cases n0
    have ne0S : e0 ≠ S := fun z => by
      rw [z, b2 _ _ upd_same] at m0
      cases m0
    have np0W : p0 ≠ W := ne_of_none (b3 _ _ upd_same) nW
    have ne0W : e0 ≠ W := ne_of_none upd_same nW
    have hW0 := upd_same (H := upd (upd (upd H S (.lst [])) p0 (.tup [])) e0 (.tup [.ref p0, v])) (a := W) (o := .lst [.ref e0])
    obtain ⟨HI, eI⟩ : ∃ HI, HI = upd (upd (upd (upd H S (.lst [])) p0 (.tup [])) e0 (.tup [.ref p0, v])) W (.lst [.ref e0]) := ⟨_, rfl⟩
    rw [← eI] at sI hS0 hp0 he0 hW0 ⊢
    have en0 : Ew K H (Off2 S W HI) (.ref e0) ([], t) := ⟨e0, .ref p0, v, rfl, SqT.of (Nw.mk m0H (Off2.mk ne0S ne0W he0)), .tup (SqT.of (Nw.mk n0H (Off2.mk np0S np0W hp0))) .nil, hv⟩
    refine ⟨fun m σ H3 => ∃ y3 y4 y5 y6 es done ents st, σ = [some v, some (.ref S), some (.ref W), y3, y4, y5, y6] ∧ Same H H3 ∧ H3 S = some (.lst es) ∧ H3 W = some (.lst ents) ∧ Ews K H (Off2 S W H3) es done ∧ Ews K H (Off2 S W H3) ents st.reverse ∧ Stk n m st ∧ done.map (·.1) ++ walkW m st = walkW k [([], t)] ∧ m ≤ k,
      ⟨k, none, none, none, none, [], [], [.ref e0], [([], t)], rfl, sI, hS0, hW0, .nil, .cons en0 .nil, ?_, rfl, Nat.le_refl k⟩, ?_⟩
    · exact (show Stk n (k + 0) [([], t)] from .cons tr (by show 0 + n ≤ n; omega) .nil)
    · rintro m σ H3 ⟨y3, y4, y5, y6, es, done, ents, st, rfl, s3, hS3, hW3, hes, hen, hst, hw, hmk⟩
      refine ⟨_, rfl, _, .inl ⟨ents, SqL.of hW3, rfl⟩, ?_⟩
      have hdl : es.length ≤ 1000 := by
        have h1 := hes.len
        have h2 := congrArg List.length hw
        rw [List.length_append, List.length_map] at h2
        have h3 := walkW_len k [([], t)]
        omega
      cases st with
      | nil =>
        have h0 := hen.len
        have e0' : ents = [] := List.eq_nil_of_length_eq_zero h0
        subst e0'
        refine iteF ?_
        cases hst
        have hw2 : done.map (·.1) = walkW k [([], t)] := by
          rw [← hw]
          exact (List.append_nil _).symm
        exact ⟨_, rfl, q _ S es done s3 nS hS3 hw2 (hes.grow Off2.sub)⟩
      | cons x st =>
        obtain ⟨p, tt⟩ := x
        rw [List.reverse_cons] at hen
        obtain ⟨en', e, rfl, hen', q0, pv, nv, rfl, hSq, hpv, hnv⟩ := hen.last
        refine ifT (by simp) ?_
        cases hst with
        | cons htr hb hr2 =>
          rename_i n1 k1 c1
          obtain ⟨q1, q2, x1, x2, us, rfl, hN1, hN2, hA2, hus⟩ := tr_heap htr hnv
          have lus := dpAll_len hA2
          obtain ⟨pa, px, rfl, hPS, hPA⟩ : ∃ pa px, pv = .ref pa ∧ SqT K (Nw H (Off2 S W H3)) pa px ∧ DpAll K (Nw H (Off2 S W H3)) px (p.map PyData.int) := by
            cases hpv with
            | tup h1 h2 => exact ⟨_, _, rfl, h1, h2⟩
          have lpx := dpAll_len hPA
          rw [List.length_map] at lpx
          refine ⟨fun σ' H' => ∃ y3 y4 y5 y6 es done ents st, σ' = [some v, some (.ref S), some (.ref W), y3, y4, y5, y6] ∧ Same H H' ∧ H' S = some (.lst es) ∧ H' W = some (.lst ents) ∧ Ews K H (Off2 S W H') es done ∧ Ews K H (Off2 S W H') ents st.reverse ∧ Stk n (k1 + c1 - 1) st ∧ done.map (·.1) ++ walkW (k1 + c1 - 1) st = walkW k [([], t)] ∧ k1 + c1 - 1 ≤ k, fun σ' H' h => ⟨k1 + c1 - 1, ?_, h⟩, ?_⟩
          · cases htr
            omega
          refine ⟨_, rfl, .inl ⟨rfl, _, SqL.of hW3⟩, W, _, .ref q0, rfl, rfl, hW3, by simp, ?_⟩
          rw [List.dropLast_concat]
          have hW4 : (upd H3 W (.lst en')) W = some (.lst en') := upd_same
          have hS4 : (upd H3 W (.lst en')) S = some (.lst es) := by
            rw [upd_ne nSW]
            exact hS3
          have s4 : Same H (upd H3 W (.lst en')) := Same.at_ s3 nWH
          have g4 : Same (Off2 S W H3) (Off2 S W (upd H3 W (.lst en'))) := Off2.upd2
          obtain ⟨H4, e4⟩ : ∃ H4, H4 = upd H3 W (.lst en') := ⟨_, rfl⟩
          rw [← e4] at hW4 hS4 s4 g4 ⊢
          have nw4 : Same (Nw H (Off2 S W H3)) (Nw H (Off2 S W H4)) := fun b o e => by
            obtain ⟨z1, z2⟩ := Nw.get e
            exact Nw.mk z1 (g4 _ _ z2)
          have toH : ∀ X, Same (Nw H (Off2 S W X)) X := fun X => Nw.sub.trans Off2.sub
          refine ⟨q0, _, rfl, Same.seqT (nw4.trans (toH H4)) hSq, rfl, _, _, rfl, _, _, rfl, rfl, ?_⟩
          refine ⟨_, rfl, .inl ⟨rfl, _, SqL.of hS4⟩, _, rfl, _, rfl, by show 2 ≤ sizeLine; decide, fun e2 n2 => ?_⟩
          have g5 := same_upd (o := .tup [.ref pa, .ref q1]) n2
          have hS5 := g5 _ _ hS4
          refine ⟨S, es, .ref e2, rfl, rfl, hS5, small1000 (by omega), ?_⟩
          have ne2S : e2 ≠ S := fun z => by
            rw [z, hS4] at n2
            cases n2
          have ne2W : e2 ≠ W := fun z => by
            rw [z, hW4] at n2
            cases n2
          have hW6 : (upd (upd H4 e2 (.tup [.ref pa, .ref q1])) S (.lst (es ++ [.ref e2]))) W = some (.lst en') := by
            rw [upd_ne nSW.symm]
            exact g5 _ _ hW4
          have hS6 : (upd (upd H4 e2 (.tup [.ref pa, .ref q1])) S (.lst (es ++ [.ref e2]))) S = some (.lst (es ++ [.ref e2])) := upd_same
          have he6 : (upd (upd H4 e2 (.tup [.ref pa, .ref q1])) S (.lst (es ++ [.ref e2]))) e2 = some (.tup [.ref pa, .ref q1]) := by
            rw [upd_ne ne2S, upd_same]
          have s6 : Same H (upd (upd H4 e2 (.tup [.ref pa, .ref q1])) S (.lst (es ++ [.ref e2]))) := Same.at_ (s4.trans g5) nS
          have g6 : Same (Off2 S W H4) (Off2 S W (upd (upd H4 e2 (.tup [.ref pa, .ref q1])) S (.lst (es ++ [.ref e2])))) := (Off2.same g5).trans Off2.upd1
          have n2H : H e2 = none := s4.free n2
          obtain ⟨H6, e6⟩ : ∃ H6, H6 = upd (upd H4 e2 (.tup [.ref pa, .ref q1])) S (.lst (es ++ [.ref e2])) := ⟨_, rfl⟩
          rw [← e6] at hW6 hS6 he6 s6 g6 ⊢
          have g36 := g4.trans g6
          have nw6 : Same (Nw H (Off2 S W H3)) (Nw H (Off2 S W H6)) := fun b o e => by
            obtain ⟨z1, z2⟩ := Nw.get e
            exact Nw.mk z1 (g36 _ _ z2)
          have en6 : Ew K H (Off2 S W H6) (.ref e2) (p, tt) := ⟨e2, .ref pa, .ref q1, rfl, SqT.of (Nw.mk n2H (Off2.mk ne2S ne2W he6)), .tup (Same.seqT nw6 hPS) (dpAll_same nw6 hPA), hnv⟩
          have hes6 := (hes.grow g36).snoc en6
          have hen6 := hen'.grow g36
          refine ⟨_, rfl, q1, _, 2, .ref q2, rfl, rfl, Same.seqT s6 hN1, atI_nat (j := 2) rfl, ?_⟩
          refine ⟨_, rfl, q2, us, rfl, .inr (Same.seqT s6 hN2), _, rfl, by decide, by decide, by omega, by omega, ?_⟩
          have kl := kidsF_len 0 p (partsD tt)
          have lst := Stk.len hr2
          refine for_rangeC (fun i σ H7 => ∃ y6 ents7, σ = [some v, some (.ref S), some (.ref W), some (.ref pa), some (.ref q1), some (.ref q2), y6] ∧ Same H H7 ∧ H7 S = some (.lst (es ++ [.ref e2])) ∧ H7 W = some (.lst ents7) ∧ Same (Off2 S W H6) (Off2 S W H7) ∧ Ews K H (Off2 S W H7) ents7 (st.reverse ++ ((kidsF 0 p (partsD tt)).drop (us.length - i)).reverse) ∧ i ≤ us.length)
            ⟨y6, en', rfl, s6, hS6, hW6, Same.refl _, by rw [List.drop_eq_nil_of_le (by rw [kl]; omega), List.reverse_nil, List.append_nil]; exact hen6, Nat.zero_le _⟩ ?_ ?_
          · rintro i σ H7 hi ⟨y6, ents7, rfl, s7, hS7, hW7, g7, hen7, hi2⟩
            have hi3 : i < us.length := by omega
            obtain ⟨m0, hm0, hml, hmi⟩ : ∃ m0 : Nat, (0 + (((us.length : Int) - 0).toNat : Int) - 1 + (i : Nat) * (-1) : Int) = (m0 : Int) ∧ m0 < us.length ∧ us.length - i = m0 + 1 := ⟨us.length - 1 - i, by omega, by omega, by omega⟩
            rw [hm0]
            obtain ⟨dd, hdd, hud⟩ := dpAll_at hA2 (i := m0) (v := us[m0]) (by simp [hml])
            have nw7 : Same (Nw H (Off2 S W H3)) (Nw H (Off2 S W H7)) := fun b o e => by
              obtain ⟨z1, z2⟩ := Nw.get e
              exact Nw.mk z1 (g7 _ _ (g36 _ _ z2))
            have el7 := hen7.len
            rw [List.length_append, List.length_reverse, List.length_reverse, List.length_drop, kl] at el7
            refine ⟨_, rfl, .inl ⟨rfl, _, SqL.of hW7⟩, _, rfl, _, rfl, _, _, rfl, rfl, by show 1 ≤ sizeLine; decide, fun a1 na1 => ?_⟩
            have h1 := same_upd (o := .tup [.int ((m0 : Int) + 1)]) na1
            have na1S : a1 ≠ S := fun z => by
              rw [z, hS7] at na1
              cases na1
            have na1W : a1 ≠ W := fun z => by
              rw [z, hW7] at na1
              cases na1
            refine ⟨pa, a1, px, _, rfl, rfl, Same.seqT ((nw7.trans (toH H7)).trans h1) hPS, SqT.of upd_same, by simp, Nat.le_trans (show _ ≤ 200 from by
              show px.length + 1 ≤ 200
              omega) (by decide), fun H9 r s9 hr => ?_⟩
            obtain ⟨hr1, hr2', hr3, hr4⟩ : H9 r = some (.tup (px ++ [.int ((m0 : Int) + 1)])) ∧ H r = none ∧ r ≠ S ∧ r ≠ W := by
              rcases hr with ⟨rfl, e1, rfl⟩ | ⟨e1, e2⟩
              · exact ⟨by rw [upd_same, e1]; rfl, s7.free na1, na1S, na1W⟩
              · refine ⟨e2, (s7.trans h1).free e1, fun z => ?_, fun z => ?_⟩
                · rw [z, h1 _ _ hS7] at e1
                  cases e1
                · rw [z, h1 _ _ hW7] at e1
                  cases e1
            have h9 := h1.trans s9
            refine ⟨_, rfl, _, rfl, q2, us, _, us[m0], rfl, rfl, Same.seqT (s7.trans h9) hN2, atI_nat (by simp [hml]), by show 2 ≤ sizeLine; decide, fun e9 n9 => ?_⟩
            have h10 := same_upd (o := .tup [.ref r, us[m0]]) n9
            have hW9 := h10 _ _ (h9 _ _ hW7)
            have ne9S : e9 ≠ S := fun z => by
              rw [z, h9 _ _ hS7] at n9
              cases n9
            have ne9W : e9 ≠ W := fun z => by
              rw [z, h9 _ _ hW7] at n9
              cases n9
            refine ⟨W, ents7, .ref e9, rfl, rfl, hW9, small1000 (by omega), ?_⟩
            have gA : Same (Off2 S W H7) (Off2 S W (upd (upd H9 e9 (.tup [.ref r, us[m0]])) W (.lst (ents7 ++ [.ref e9])))) := (Off2.same (h9.trans h10)).trans Off2.upd2
            have nwA : Same (Nw H (Off2 S W H3)) (Nw H (Off2 S W (upd (upd H9 e9 (.tup [.ref r, us[m0]])) W (.lst (ents7 ++ [.ref e9]))))) := fun b o e => by
              obtain ⟨z1, z2⟩ := Nw.get e
              exact Nw.mk z1 (gA _ _ (g7 _ _ (g36 _ _ z2)))
            have enA : Ew K H (Off2 S W (upd (upd H9 e9 (.tup [.ref r, us[m0]])) W (.lst (ents7 ++ [.ref e9])))) (.ref e9) (p ++ [((0 + m0 : Nat) : Int) + 1], dd) := by
              refine ⟨e9, .ref r, us[m0], rfl, SqT.of (Nw.mk ((s7.trans h9).free n9) (Off2.mk ne9S ne9W (by rw [upd_ne ne9W, upd_same]))), .tup (SqT.of (Nw.mk hr2' (Off2.mk hr3 hr4 (by rw [upd_ne hr4]; exact h10 _ _ hr1)))) ?_, hud⟩
              rw [List.map_append, Nat.zero_add]
              exact dpAll_snoc (dpAll_same nwA hPA) (.int _)
            refine ⟨_, ents7 ++ [.ref e9], rfl, Same.at_ (s7.trans (h9.trans h10)) nWH, by rw [upd_ne nSW]; exact h10 _ _ (h9 _ _ hS7), upd_same, g7.trans gA, ?_, by omega⟩
            rw [show us.length - (i + 1) = m0 by omega]
            have hk0 := kidsF_at 0 p (partsD tt) m0 dd hdd
            have hkl : m0 < (kidsF 0 p (partsD tt)).length := by
              rw [kl]
              omega
            rw [List.drop_eq_getElem_cons hkl, List.reverse_cons, ← List.append_assoc]
            have hke : (kidsF 0 p (partsD tt))[m0] = (p ++ [((0 + m0 : Nat) : Int) + 1], dd) := by
              rw [List.getElem?_eq_getElem hkl] at hk0
              exact Option.some.inj hk0
            rw [hke]
            rw [hmi] at hen7
            exact (hen7.grow gA).snoc enA
          · rintro σ H7 ⟨y6, ents7, rfl, s7, hS7, hW7, g7, hen7, hi2⟩
            have hz : us.length - ((us.length : Int) - 0).toNat = 0 := by omega
            rw [hz, List.drop_zero, ← List.reverse_append] at hen7
            refine ⟨_, _, _, _, _, done ++ [(p, tt)], ents7, kidsF 0 p (partsD tt) ++ st, rfl, s7, hS7, hW7, hes6.grow g7, hen7, ?_, ?_, by omega⟩
            · cases htr with
              | mk z1 z2 z3 z4 z5 =>
                rename_i n0 k0 z0 i0 ds0
                rw [show k0 + 1 + c1 - 1 = k0 + c1 by omega]
                exact Stk.kids (by omega) hr2 z5
            · rw [List.map_append, List.append_assoc, ← hw]
              cases htr with
              | mk z1 z2 z3 z4 z5 =>
                rename_i n0 k0 z0 i0 ds0
                rw [show k0 + 1 + c1 - 1 = k0 + c1 by omega, show k0 + 1 + c1 = (k0 + c1) + 1 by omega]
                rfl
end
section
variable {P : Program} {w : World} {K : PySem.W.Frag} {mg : Str → Option Value} {base : Heap}
theorem ok_nodes_of (cwalk_of : C8.Cal P w K mg base 1 "walk_of" (spWalk K) []) (D : Dd K mg "nodes_of" s_nodes_of P_nodes_of) : C8.Cal P w K mg base 2 "nodes_of" (spNodes K) [] := by
  refine D.cal sc_nodes_of (fun vs H Q E h => ?_) (fun f cdv A outer s H vs Q E hr h => ?_)
  · obtain ⟨v, t, n, k, rfl, _⟩ := h
    rfl
  · obtain ⟨v, t, n, k, rfl, hv, tr, hk, hn, q⟩ := h
    refine ⟨_, (pss_one (ps_ret (pe_lc (g := gTup K 2 (gCons (gName 1) (gCons (gName 2) gNil))) (own := [("path", 1), ("node", 2)]) (by exact rfl) sc_nodes_of.nd (pi_list (C8.pe_c cwalk_of hr (by decide) (by rfl) (pa_cons (pv 0) pa_nil))) (blkOk_by (own := [("path", 1), ("node", 2)]) (N := N_nodes_of) (sc := defScope s_nodes_of) (by decide +kernel)) (fun _ _ _ _ _ => (pg_tup (n := 2) rfl (pgs_cons (pg_name (i := 1) sc_nodes_of.nd rfl (Or.inl rfl) (Or.inr rfl)) (pgs_cons (pg_name (i := 2) sc_nodes_of.nd rfl (Or.inl rfl) (Or.inr rfl)) pgs_nil)))) (fun _ _ _ _ _ => pts_nil) (fun _ _ _ _ _ => (pv 1))))), ?_⟩
    refine ⟨_, rfl, v, t, n, k, rfl, hv, tr, hk, hn, fun H1 L es ps s1 nL hL hps hen => ⟨L, rfl, ⟨_, SqL.of hL⟩, fun D nD => ?_⟩⟩
    have lps : ps.length ≤ 900 := by
      have h1 := congrArg List.length hps
      rw [List.length_map] at h1
      have h2 := walkW_len k [([], t)]
      omega
    have les := hen.len
    refine lc_list (K := K) (a := L) (xs := es) (fun j H' => Same H1 H' ∧ ∃ ws, H' D = some (.lst ws) ∧ ws.length = j ∧ DpAll K (Nw H H1) ws ((ps.take j).map fun x => pathD x.1)) ⟨same_upd nD, [], upd_same, rfl, .nil⟩ (fun j H' _ h => SqL.of (h.1 _ _ hL)) ?_ ?_
    · rintro j e H' he ⟨sm, ws, hD, hwl, hdp⟩
      obtain ⟨x, hx, q0, pv, nv, rfl, hSq, hpv, hnv⟩ := hen.at_ he
      have hj : j < es.length := (List.getElem?_eq_some_iff.mp he).1
      refine ⟨q0, _, rfl, Same.seqT (Nw.sub.trans sm) hSq, rfl, _, _, rfl, _, _, rfl, rfl, ?_⟩
      refine ⟨rfl, yesT ?_⟩
      refine ⟨_, rfl, _, hD, by rw [hwl]; exact small1000 (by omega), Same.at_ sm nD, ws ++ [pv], upd_same, by rw [List.length_append, hwl]; rfl, ?_⟩
      rw [List.take_add_one, hx, List.map_append]
      exact dpAll_snoc hdp hpv
    · rintro H' ⟨sm, ws, hD, hwl, hdp⟩
      rw [les, List.take_length] at hdp
      refine q H' D ws (s1.trans sm) (s1.free nD) hD ?_
      rw [← hps, List.map_map]
      exact dpAll_same (fun b o e => by
        obtain ⟨e1, e2⟩ := Nw.get e
        exact Nw.mk e1 (sm _ _ e2)) hdp
end
theorem allTrue (n : Nat) : (List.replicate n true).all id = true := by
  rw [List.all_eq_true]
  intro x hx
  rw [List.eq_of_mem_replicate hx]
  rfl
abbrev s__law_same : Stmt := top 27
abbrev N__law_same : List Str := ["_law_found", "_law_due", "_law_one", "_law_other"]
abbrev P__law_same : List Str := ["_law_found", "_law_due"]
theorem sc__law_same : FnScope N__law_same P__law_same (defScope s__law_same) := ⟨rfl, rfl, rfl, by decide +kernel, rfl, by decide +kernel, by decide +kernel⟩
structure Sa (mg : Str → Option Value) : Prop where
  isinstance : mg "isinstance" = none
  list : mg "list" = none
  tuple : mg "tuple" = none
  bool : mg "bool" = none
  str : mg "str" = none
  int : mg "int" = none
  len : mg "len" = none
  zip : mg "zip" = none
  all : mg "all" = none
  range : mg "range" = none
theorem walk_zipT {K : PySem.W.Frag} {a b : Addr} {xs ys : List V} {n : Nat} (hn : n = min xs.length ys.length) : Walk (RZ.ItzT K a b) n (fun H => SqT K H a xs ∧ SqT K H b ys) (YPair (fun i => xs[i]?) (fun i => ys[i]?)) := by
  subst hn
  refine ⟨fun i _ hi q => ?_, fun _ q => ⟨xs, ys, q.1, q.2, by omega⟩, fun i H v H' _ q y => ?_⟩
  · have h1 : i < xs.length := by omega
    have h2 : i < ys.length := by omega
    exact ⟨xs, ys, xs[i], ys[i], q.1, q.2, by simp [h1], by simp [h2]⟩
  · obtain ⟨T, x, z, h1, h2, h3, h4, h5⟩ := y
    exact ⟨T, x, z, h1, h2, h3, h4 xs q.1, h5 ys q.2⟩
def spSame (K : PySem.W.Frag) (n : Nat) : Sp := fun vs H Q _ => ∃ (x y : V) (d : PyData), vs = [x, y] ∧ Dp K H x d ∧ Dp K H y d ∧ Sm n d ∧ ∀ H', Same H H' → Q (.bl true) H'
section
variable {P : Program} {w : World} {K : PySem.W.Frag} {mg : Str → Option Value} {base : Heap}
theorem same_non (T : Sa mg) (f : Addr) (cdv : Value) (A : Around) (outer : List Env) (s : Shared) (H : Hp) (Q : VK) (E : XK) (q : ∀ H', Same H H' → Q (.bl true) H') :
    ∃ t, PSs (cxOf CX0 P w K mg base N__law_same "_law_same" (defScope s__law_same) f cdv A outer s H E).nox (defBody s__law_same) t ∧ t { nx := fun _ H' => Q .non H', rt := Q } (start N__law_same [.non, .non]) H := by
  refine ⟨_, (pss_cons (ps_if (pt_val (pe_callB call_isiT (by rfl) T.isinstance (by decide +kernel) (pa_cons (pv 1) (pa_cons (pe_tup (pa_cons (pe_bltn (v := .ty "list") rfl T.list (by decide +kernel) rfl) (pa_cons (pe_bltn (v := .ty "tuple") rfl T.tuple (by decide +kernel) rfl) pa_nil))) pa_nil))))
      (pss_cons ps_never (pss_one ps_never)) pss_nil)
    (pss_cons (ps_if (PW.pt (pw_or (pt_cmpR op_isN (pv 1) pe_non (nomark _)) (pw_or1 (pt_cmpR op_isN (pv 0) pe_non (nomark _)))))
      (pss_one (ps_ret (pe_and (pe_cmpR op_isN (pv 1) pe_non (nomark _)) (pe_one (pe_cmpR op_isN (pv 0) pe_non (nomark _))))))
      pss_nil) (pss_cons ps_never (pss_one ps_never)))), ?_⟩
  refine ⟨_, rfl, by show 2 ≤ sizeLine; decide, fun tp nt => ?_⟩
  refine ⟨.non, tp, _, .type "NoneType", [.type "list", .type "tuple"], false, rfl, upd_same, .cons (.ty "list") (.cons (.ty "tuple") .nil), .base .non, kitLT (by decide +kernel) (fun _ => by decide +kernel), _, rfl, iteF ?_⟩
  refine ⟨_, rfl, rfl, _, rfl, ifT (decide_eq_true rfl) (iteT ?_)⟩
  refine ⟨_, rfl, rfl, _, rfl, ifT (decide_eq_true rfl) ?_⟩
  refine ⟨_, rfl, rfl, ?_⟩
  rw [decide_eq_true rfl]
  exact q _ (same_upd nt)
theorem same_atom (T : Sa mg) (f : Addr) (cdv : Value) (A : Around) (outer : List Env) (s : Shared) (H : Hp) (Q : VK) (E : XK) {x : V} {t : String} (ty : ∀ H', TyX K H' x (.type t)) (nx : x ≠ .non) (k1 : kitB t "list" = some false) (k2 : kitB t "tuple" = some false)
    (kk : (kitB t "bool" = some true) ∨ (kitB t "bool" = some false ∧ kitB t "str" = some true) ∨ (kitB t "bool" = some false ∧ kitB t "str" = some false ∧ kitB t "int" = some true)) (sc : scal x x = true) (q : ∀ H', Same H H' → Q (.bl true) H') :
    ∃ t, PSs (cxOf CX0 P w K mg base N__law_same "_law_same" (defScope s__law_same) f cdv A outer s H E).nox (defBody s__law_same) t ∧ t { nx := fun _ H' => Q .non H', rt := Q } (start N__law_same [x, x]) H := by
  refine ⟨_, (pss_cons (ps_if (pt_val (pe_callB call_isiT (by rfl) T.isinstance (by decide +kernel) (pa_cons (pv 1) (pa_cons (pe_tup (pa_cons (pe_bltn (v := .ty "list") rfl T.list (by decide +kernel) rfl) (pa_cons (pe_bltn (v := .ty "tuple") rfl T.tuple (by decide +kernel) rfl) pa_nil))) pa_nil))))
      (pss_cons ps_never (pss_one ps_never)) pss_nil)
    (pss_cons (ps_if (PW.pt (pw_or (pt_cmpR op_isN (pv 1) pe_non (nomark _)) (pw_or1 (pt_cmpR op_isN (pv 0) pe_non (nomark _)))))
      (pss_one ps_never) pss_nil)
    (pss_cons (ps_if (PW.pt (pw_or (pt_val (pe_callB call_isi (by rfl) T.isinstance (by decide +kernel) (pa_cons (pv 1) (pa_cons (pe_bltn (v := .ty "bool") rfl T.bool (by decide +kernel) rfl) pa_nil)))) (pw_or1 (pt_val (pe_callB call_isi (by rfl) T.isinstance (by decide +kernel) (pa_cons (pv 1) (pa_cons (pe_bltn (v := .ty "str") rfl T.str (by decide +kernel) rfl) pa_nil)))))))
      (pss_one (ps_ret (pe_and (pe_cmpR op_eq (pe_callB call_isi (by rfl) T.isinstance (by decide +kernel) (pa_cons (pv 0) (pa_cons (pe_bltn (v := .ty "bool") rfl T.bool (by decide +kernel) rfl) pa_nil))) (pe_callB call_isi (by rfl) T.isinstance (by decide +kernel) (pa_cons (pv 1) (pa_cons (pe_bltn (v := .ty "bool") rfl T.bool (by decide +kernel) rfl) pa_nil))) (nomark _)) (pe_one (pe_cmpR op_eq (pv 0) (pv 1) (nomark _))))))
      pss_nil)
    (pss_one (ps_ret (pe_and (pe_callB call_isi (by rfl) T.isinstance (by decide +kernel) (pa_cons (pv 0) (pa_cons (pe_bltn (v := .ty "int") rfl T.int (by decide +kernel) rfl) pa_nil))) (pe_and (pe_not (pe_callB call_isi (by rfl) T.isinstance (by decide +kernel) (pa_cons (pv 0) (pa_cons (pe_bltn (v := .ty "bool") rfl T.bool (by decide +kernel) rfl) pa_nil)))) (pe_one (pe_cmpR op_eq (pv 0) (pv 1) (nomark _)))))))))), ?_⟩
  refine ⟨_, rfl, by show 2 ≤ sizeLine; decide, fun tp nt => ?_⟩
  refine ⟨x, tp, _, .type t, [.type "list", .type "tuple"], false, rfl, upd_same, .cons (.ty "list") (.cons (.ty "tuple") .nil), ty _, kitLT k1 (fun _ => k2), _, rfl, iteF ?_⟩
  refine ⟨_, rfl, rfl, _, rfl, ifF (decide_eq_false nx) ?_⟩
  refine ⟨_, rfl, rfl, _, rfl, ifF (decide_eq_false nx) ?_⟩
  rcases kk with kb | ⟨kb, ks⟩ | ⟨kb, ks, ki⟩
  · refine ⟨_, rfl, x, .ty "bool", .type t, .type "bool", true, rfl, .ty "bool", ty _, kit_ty kb, _, rfl, iteT (iteT ?_)⟩
    refine ⟨_, rfl, x, .ty "bool", .type t, .type "bool", true, rfl, .ty "bool", ty _, kit_ty kb, ?_⟩
    refine ⟨_, rfl, x, .ty "bool", .type t, .type "bool", true, rfl, .ty "bool", ty _, kit_ty kb, ?_⟩
    refine ⟨rfl, _, rfl, ifT (decide_eq_true rfl) ?_⟩
    refine ⟨_, rfl, _, rfl, sc, ?_⟩
    rw [decide_eq_true rfl]
    exact q _ (same_upd nt)
  · refine ⟨_, rfl, x, .ty "bool", .type t, .type "bool", false, rfl, .ty "bool", ty _, kit_ty kb, _, rfl, iteF ?_⟩
    refine ⟨_, rfl, x, .ty "str", .type t, .type "str", true, rfl, .ty "str", ty _, kit_ty ks, _, rfl, iteT ?_⟩
    refine ⟨_, rfl, x, .ty "bool", .type t, .type "bool", false, rfl, .ty "bool", ty _, kit_ty kb, ?_⟩
    refine ⟨_, rfl, x, .ty "bool", .type t, .type "bool", false, rfl, .ty "bool", ty _, kit_ty kb, ?_⟩
    refine ⟨rfl, _, rfl, ifT (decide_eq_true rfl) ?_⟩
    refine ⟨_, rfl, _, rfl, sc, ?_⟩
    rw [decide_eq_true rfl]
    exact q _ (same_upd nt)
  · refine ⟨_, rfl, x, .ty "bool", .type t, .type "bool", false, rfl, .ty "bool", ty _, kit_ty kb, _, rfl, iteF ?_⟩
    refine ⟨_, rfl, x, .ty "str", .type t, .type "str", false, rfl, .ty "str", ty _, kit_ty ks, _, rfl, iteF ?_⟩
    refine ⟨_, rfl, x, .ty "int", .type t, .type "int", true, rfl, .ty "int", ty _, kit_ty ki, _, rfl, iteT ?_⟩
    refine ⟨_, rfl, x, .ty "bool", .type t, .type "bool", false, rfl, .ty "bool", ty _, kit_ty kb, _, rfl, _, rfl, iteT ?_⟩
    refine ⟨_, rfl, _, rfl, sc, ?_⟩
    rw [decide_eq_true rfl]
    exact q _ (same_upd nt)
theorem ok_same (T : Sa mg) (D : Dd K mg "_law_same" s__law_same P__law_same) : ∀ n, C8.Cal P w K mg base (n + 1) "_law_same" (spSame K n) [] := by
  intro n
  induction n with
  | zero =>
    refine D.cal sc__law_same (fun vs H Q E h => ?_) (fun f cdv A outer s H vs Q E hr h => ?_)
    · obtain ⟨x, y, d, rfl, _⟩ := h
      rfl
    · obtain ⟨x, y, d, rfl, hx, hy, hs, q⟩ := h
      cases hs with
      | non => cases hx; cases hy; exact same_non T f cdv A outer s H Q E q
      | bl _ b => cases hx; cases hy; exact same_atom T f cdv A outer s H Q E (fun _ => .base (.bl b)) (fun z => nomatch z) (by decide +kernel) (by decide +kernel) (.inl (by decide +kernel)) rfl q
      | int _ i => cases hx; cases hy; exact same_atom T f cdv A outer s H Q E (fun _ => .base (.int i)) (fun z => nomatch z) (by decide +kernel) (by decide +kernel) (.inr (.inr ⟨by decide +kernel, by decide +kernel, by decide +kernel⟩)) rfl q
      | str _ z => cases hx; cases hy; exact same_atom T f cdv A outer s H Q E (fun _ => .base (.str z)) (fun z => nomatch z) (by decide +kernel) (by decide +kernel) (.inr (.inl ⟨by decide +kernel, by decide +kernel⟩)) rfl q
  | succ n c_law_same =>
    refine D.cal sc__law_same (fun vs H Q E h => ?_) (fun f cdv A outer s H vs Q E hr h => ?_)
    · obtain ⟨x, y, d, rfl, _⟩ := h
      rfl
    · obtain ⟨x, y, d, rfl, hx, hy, hs, q⟩ := h
      cases hs with
      | non => cases hx; cases hy; exact same_non T f cdv A outer s H Q E q
      | bl _ b => cases hx; cases hy; exact same_atom T f cdv A outer s H Q E (fun _ => .base (.bl b)) (fun z => nomatch z) (by decide +kernel) (by decide +kernel) (.inl (by decide +kernel)) rfl q
      | int _ i => cases hx; cases hy; exact same_atom T f cdv A outer s H Q E (fun _ => .base (.int i)) (fun z => nomatch z) (by decide +kernel) (by decide +kernel) (.inr (.inr ⟨by decide +kernel, by decide +kernel, by decide +kernel⟩)) rfl q
      | str _ z => cases hx; cases hy; exact same_atom T f cdv A outer s H Q E (fun _ => .base (.str z)) (fun z => nomatch z) (by decide +kernel) (by decide +kernel) (.inr (.inl ⟨by decide +kernel, by decide +kernel⟩)) rfl q
      | lst _ hlen hall =>
        rename_i ds
        cases hx with
        | lst hS hd =>
          rename_i a xs
          cases hy with
          | lst hS2 hd2 =>
            rename_i b ys
            refine ⟨_, (pss_cons (ps_if (pt_val (pe_callB call_isiT (by rfl) T.isinstance (by decide +kernel) (pa_cons (pv 1) (pa_cons (pe_tup (pa_cons (pe_bltn (v := .ty "list") rfl T.list (by decide +kernel) rfl) (pa_cons (pe_bltn (v := .ty "tuple") rfl T.tuple (by decide +kernel) rfl) pa_nil))) pa_nil))))
      (pss_cons (ps_if (PW.pt (pw_or (pt_cmpR op_ne (pe_callB call_isi (by rfl) T.isinstance (by decide +kernel) (pa_cons (pv 0) (pa_cons (pe_bltn (v := .ty "list") rfl T.list (by decide +kernel) rfl) pa_nil))) (pe_callB call_isi (by rfl) T.isinstance (by decide +kernel) (pa_cons (pv 1) (pa_cons (pe_bltn (v := .ty "list") rfl T.list (by decide +kernel) rfl) pa_nil))) (nomark _)) (pw_or1 (pt_cmpR op_ne (pe_callB call_isi (by rfl) T.isinstance (by decide +kernel) (pa_cons (pv 0) (pa_cons (pe_bltn (v := .ty "tuple") rfl T.tuple (by decide +kernel) rfl) pa_nil))) (pe_callB call_isi (by rfl) T.isinstance (by decide +kernel) (pa_cons (pv 1) (pa_cons (pe_bltn (v := .ty "tuple") rfl T.tuple (by decide +kernel) rfl) pa_nil))) (nomark _)))))
      (pss_one ps_never)
      pss_nil)
    (pss_one (ps_ret (pe_and (pe_cmpR op_eq (pe_callB call_len_seq (by rfl) T.len PySem.boot_len (pa_cons (pv 0) pa_nil)) (pe_callB call_len_seq (by rfl) T.len PySem.boot_len (pa_cons (pv 1) pa_nil)) (nomark _)) (pe_one (pe_callB (cr_all rfl) (by rfl) T.all (by decide +kernel) (pa_cons (pe_lc (g := gTup K 2 (gCons (gName 2) (gCons (gName 3) gNil))) (own := [("_law_one", 2), ("_law_other", 3)]) (by exact rfl) sc__law_same.nd (RZ.pi_zipA (by rfl) T.zip (pa_cons (pv 0) (pa_cons (pv 1) pa_nil))) (blkOk_by (own := [("_law_one", 2), ("_law_other", 3)]) (N := N__law_same) (sc := defScope s__law_same) (by decide +kernel)) (fun _ _ _ _ _ => (pg_tup (n := 2) rfl (pgs_cons (pg_name (i := 2) sc__law_same.nd rfl (Or.inl rfl) (Or.inr rfl)) (pgs_cons (pg_name (i := 3) sc__law_same.nd rfl (Or.inl rfl) (Or.inr rfl)) pgs_nil)))) (fun _ _ _ _ _ => pts_nil) (fun _ _ _ _ _ => (C8.pe_c c_law_same hr (by omega) (by rfl) (pa_cons (pv 2) (pa_cons (pv 3) pa_nil))))) pa_nil)))))))
      pss_nil)
    (pss_cons ps_never (pss_cons ps_never (pss_one ps_never)))), ?_⟩
            have lx := dpAll_len hd
            have ly := dpAll_len hd2
            refine ⟨_, rfl, by show 2 ≤ sizeLine; decide, fun tp nt => ?_⟩
            have s1 := same_upd (o := .tup [.ty "list", .ty "tuple"]) nt
            have h1 := Same.seqL s1 hS
            have h2 := Same.seqL s1 hS2
            refine ⟨.ref b, tp, _, .type "list", [.type "list", .type "tuple"], true, rfl, upd_same, .cons (.ty "list") (.cons (.ty "tuple") .nil), tyL h2, kitLT (by decide +kernel) (fun e => nomatch e), _, rfl, iteT ?_⟩
            refine ⟨_, rfl, .ref a, .ty "list", .type "list", .type "list", true, rfl, .ty "list", tyL h1, kit_ty (by decide +kernel), ?_⟩
            refine ⟨_, rfl, .ref b, .ty "list", .type "list", .type "list", true, rfl, .ty "list", tyL h2, kit_ty (by decide +kernel), rfl, _, rfl, iteF ?_⟩
            refine ⟨_, rfl, .ref a, .ty "tuple", .type "list", .type "tuple", false, rfl, .ty "tuple", tyL h1, kit_ty (by decide +kernel), ?_⟩
            refine ⟨_, rfl, .ref b, .ty "tuple", .type "list", .type "tuple", false, rfl, .ty "tuple", tyL h2, kit_ty (by decide +kernel), rfl, _, rfl, iteF ?_⟩
            refine ⟨_, rfl, a, xs, rfl, .inl h1, ?_⟩
            refine ⟨_, rfl, b, ys, rfl, .inl h2, rfl, _, rfl, ifT (by rw [lx, ly]; exact decide_eq_true rfl) ?_⟩
            refine ⟨_, rfl, _, rfl, a, b, xs, ys, rfl, .inl ⟨h1, h2, fun D nD => ?_⟩⟩
            refine lc_it (walk_zip (K := K) (a := a) (b := b) (xs := xs) (ys := ys) rfl) (fun j H' => Same H H' ∧ H' D = some (.lst ((List.replicate j true).map V.bl)))
              ⟨Same.trans s1 (same_upd nD), upd_same⟩ (fun j H' _ h => ⟨Same.seqL h.1 hS, Same.seqL h.1 hS2⟩) ?_ ?_
            · rintro j v H3 H4 hj ⟨sm, hD⟩ ⟨U, x, y, rfl, nU, rfl, ex, ey⟩
              obtain ⟨d1, e1, g1⟩ := dpAll_at hd ex
              obtain ⟨d2, e2, g2⟩ := dpAll_at hd2 ey
              rw [e1] at e2
              cases e2
              have sU : Same H3 (upd H3 U (.tup [x, y])) := same_upd nU
              have s5 := sm.trans sU
              refine ⟨U, _, rfl, SqT.of upd_same, rfl, _, _, rfl, _, _, rfl, rfl, ?_⟩
              refine ⟨rfl, yesT ?_⟩
              refine ⟨_, rfl, _, rfl, x, y, d1, rfl, dp_same s5 g1, dp_same s5 g2, hall d1 (List.mem_of_getElem? e1), fun H6 s6 => ?_⟩
              refine ⟨_, s6 _ _ (sU _ _ hD), by rw [List.length_map, List.length_replicate]; exact small1000 (by omega), Same.at_ (s5.trans s6) (s1.free nD), ?_⟩
              rw [upd_same, List.replicate_succ', List.map_append]
              rfl
            · rintro H6 ⟨s6, hD⟩
              refine ⟨D, _, rfl, SqL.of hD, ?_⟩
              rw [allTrue]
              exact q H6 s6
      | tup _ hlen hall =>
        rename_i ds
        cases hx with
        | tup hS hd =>
          rename_i a xs
          cases hy with
          | tup hS2 hd2 =>
            rename_i b ys
            refine ⟨_, (pss_cons (ps_if (pt_val (pe_callB call_isiT (by rfl) T.isinstance (by decide +kernel) (pa_cons (pv 1) (pa_cons (pe_tup (pa_cons (pe_bltn (v := .ty "list") rfl T.list (by decide +kernel) rfl) (pa_cons (pe_bltn (v := .ty "tuple") rfl T.tuple (by decide +kernel) rfl) pa_nil))) pa_nil))))
      (pss_cons (ps_if (PW.pt (pw_or (pt_cmpR op_ne (pe_callB call_isi (by rfl) T.isinstance (by decide +kernel) (pa_cons (pv 0) (pa_cons (pe_bltn (v := .ty "list") rfl T.list (by decide +kernel) rfl) pa_nil))) (pe_callB call_isi (by rfl) T.isinstance (by decide +kernel) (pa_cons (pv 1) (pa_cons (pe_bltn (v := .ty "list") rfl T.list (by decide +kernel) rfl) pa_nil))) (nomark _)) (pw_or1 (pt_cmpR op_ne (pe_callB call_isi (by rfl) T.isinstance (by decide +kernel) (pa_cons (pv 0) (pa_cons (pe_bltn (v := .ty "tuple") rfl T.tuple (by decide +kernel) rfl) pa_nil))) (pe_callB call_isi (by rfl) T.isinstance (by decide +kernel) (pa_cons (pv 1) (pa_cons (pe_bltn (v := .ty "tuple") rfl T.tuple (by decide +kernel) rfl) pa_nil))) (nomark _)))))
      (pss_one ps_never)
      pss_nil)
    (pss_one (ps_ret (pe_and (pe_cmpR op_eq (pe_callB call_len_seq (by rfl) T.len PySem.boot_len (pa_cons (pv 0) pa_nil)) (pe_callB call_len_seq (by rfl) T.len PySem.boot_len (pa_cons (pv 1) pa_nil)) (nomark _)) (pe_one (pe_callB (cr_all rfl) (by rfl) T.all (by decide +kernel) (pa_cons (pe_lc (g := gTup K 2 (gCons (gName 2) (gCons (gName 3) gNil))) (own := [("_law_one", 2), ("_law_other", 3)]) (by exact rfl) sc__law_same.nd (RZ.pi_zipA (by rfl) T.zip (pa_cons (pv 0) (pa_cons (pv 1) pa_nil))) (blkOk_by (own := [("_law_one", 2), ("_law_other", 3)]) (N := N__law_same) (sc := defScope s__law_same) (by decide +kernel)) (fun _ _ _ _ _ => (pg_tup (n := 2) rfl (pgs_cons (pg_name (i := 2) sc__law_same.nd rfl (Or.inl rfl) (Or.inr rfl)) (pgs_cons (pg_name (i := 3) sc__law_same.nd rfl (Or.inl rfl) (Or.inr rfl)) pgs_nil)))) (fun _ _ _ _ _ => pts_nil) (fun _ _ _ _ _ => (C8.pe_c c_law_same hr (by omega) (by rfl) (pa_cons (pv 2) (pa_cons (pv 3) pa_nil))))) pa_nil)))))))
      pss_nil)
    (pss_cons ps_never (pss_cons ps_never (pss_one ps_never)))), ?_⟩
            have lx := dpAll_len hd
            have ly := dpAll_len hd2
            refine ⟨_, rfl, by show 2 ≤ sizeLine; decide, fun tp nt => ?_⟩
            have s1 := same_upd (o := .tup [.ty "list", .ty "tuple"]) nt
            have h1 := Same.seqT s1 hS
            have h2 := Same.seqT s1 hS2
            refine ⟨.ref b, tp, _, .type "tuple", [.type "list", .type "tuple"], true, rfl, upd_same, .cons (.ty "list") (.cons (.ty "tuple") .nil), tyT h2, kitLT2, _, rfl, iteT ?_⟩
            refine ⟨_, rfl, .ref a, .ty "list", .type "tuple", .type "list", false, rfl, .ty "list", tyT h1, kit_ty (by decide +kernel), ?_⟩
            refine ⟨_, rfl, .ref b, .ty "list", .type "tuple", .type "list", false, rfl, .ty "list", tyT h2, kit_ty (by decide +kernel), rfl, _, rfl, iteF ?_⟩
            refine ⟨_, rfl, .ref a, .ty "tuple", .type "tuple", .type "tuple", true, rfl, .ty "tuple", tyT h1, kit_ty (by decide +kernel), ?_⟩
            refine ⟨_, rfl, .ref b, .ty "tuple", .type "tuple", .type "tuple", true, rfl, .ty "tuple", tyT h2, kit_ty (by decide +kernel), rfl, _, rfl, iteF ?_⟩
            refine ⟨_, rfl, a, xs, rfl, .inr h1, ?_⟩
            refine ⟨_, rfl, b, ys, rfl, .inr h2, rfl, _, rfl, ifT (by rw [lx, ly]; exact decide_eq_true rfl) ?_⟩
            refine ⟨_, rfl, _, rfl, a, b, xs, ys, rfl, .inr ⟨h1, h2, fun D nD => ?_⟩⟩
            refine lc_it (walk_zipT (K := K) (a := a) (b := b) (xs := xs) (ys := ys) rfl) (fun j H' => Same H H' ∧ H' D = some (.lst ((List.replicate j true).map V.bl)))
              ⟨Same.trans s1 (same_upd nD), upd_same⟩ (fun j H' _ h => ⟨Same.seqT h.1 hS, Same.seqT h.1 hS2⟩) ?_ ?_
            · rintro j v H3 H4 hj ⟨sm, hD⟩ ⟨U, x, y, rfl, nU, rfl, ex, ey⟩
              obtain ⟨d1, e1, g1⟩ := dpAll_at hd ex
              obtain ⟨d2, e2, g2⟩ := dpAll_at hd2 ey
              rw [e1] at e2
              cases e2
              have sU : Same H3 (upd H3 U (.tup [x, y])) := same_upd nU
              have s5 := sm.trans sU
              refine ⟨U, _, rfl, SqT.of upd_same, rfl, _, _, rfl, _, _, rfl, rfl, ?_⟩
              refine ⟨rfl, yesT ?_⟩
              refine ⟨_, rfl, _, rfl, x, y, d1, rfl, dp_same s5 g1, dp_same s5 g2, hall d1 (List.mem_of_getElem? e1), fun H6 s6 => ?_⟩
              refine ⟨_, s6 _ _ (sU _ _ hD), by rw [List.length_map, List.length_replicate]; exact small1000 (by omega), Same.at_ (s5.trans s6) (s1.free nD), ?_⟩
              rw [upd_same, List.replicate_succ', List.map_append]
              rfl
            · rintro H6 ⟨s6, hD⟩
              refine ⟨D, _, rfl, SqL.of hD, ?_⟩
              rw [allTrue]
              exact q H6 s6
end
/-! ### texts of data, how long at most -/
theorem textFrom_le : ∀ (ts : List Str) (k : Nat) (acc : Str), (textFrom k acc ts).length ≤ acc.length + piled ts
  | [], k, acc => by
    rw [piled_nil]
    exact Nat.le_refl _
  | t :: r, k, acc => by
    have ih := textFrom_le r (k + 1) (acc ++ (if k > 0 then ", " else "" : String) ++ t)
    have e2 : ((", " : String) : Str).length = 2 := rfl
    have e0 : (("" : String) : Str).length = 0 := rfl
    have e : (acc ++ (if k > 0 then ", " else "" : String) ++ t).length ≤ acc.length + 2 + t.length := by
      rw [strLen_append, strLen_append]
      by_cases h : k > 0
      · rw [if_pos h, e2]
        exact Nat.le_refl _
      · rw [if_neg h, e0]
        omega
    rw [piled_cons]
    exact Nat.le_trans ih (by omega)
theorem listText_le (ts : List Str) : (listText ts).length ≤ piled ts + 2 := by
  unfold listText
  rw [strLen_append]
  have h := textFrom_le ts 0 "["
  have e1 : (("[" : String) : Str).length = 1 := rfl
  have e2 : (("]" : String) : Str).length = 1 := rfl
  rw [e1] at h
  rw [e2]
  omega
theorem tupleText_le (ts : List Str) : (tupleText ts).length ≤ piled ts + 3 := by
  unfold tupleText
  rw [strLen_append, strLen_append]
  have e1 : (("(" : String) : Str).length = 1 := rfl
  have e2 : ((if ts.length == 1 then ",)" else ")" : String) : Str).length ≤ 2 := by
    by_cases h : (ts.length == 1) = true
    · rw [if_pos h]
      decide
    · rw [if_neg h]
      decide
  rw [e1]
  cases ts with
  | nil =>
    have e3 : (Str.join ", " []).length = 0 := rfl
    rw [e3]
    omega
  | cons t r =>
    have := join_length_add (t :: r) (by simp)
    omega
/-! ### the mathematics: all nodes, a part put in a place -/
mutual
theorem Tr.deeper : ∀ {n k : Nat} {d : PyData}, Tr n k d → Tr (n + 1) k d
  | _, _, _, .mk hz h0 h1 hl h => .mk hz h0 h1 hl (TrAll.deeper h)
theorem TrAll.deeper : ∀ {n k : Nat} {ds : List PyData}, TrAll n k ds → TrAll (n + 1) k ds
  | _, _, _, .nil n => .nil (n + 1)
  | _, _, _, .cons h a => .cons (Tr.deeper h) (TrAll.deeper a)
end
theorem Tr.mono {m n k : Nat} {d : PyData} (h : Tr m k d) (e : m ≤ n) : Tr n k d := by
  induction e with
  | refl => exact h
  | step _ ih => exact ih.deeper
theorem TrAll.mono {m n k : Nat} {ds : List PyData} (h : TrAll m k ds) (e : m ≤ n) : TrAll n k ds := by
  induction e with
  | refl => exact h
  | step _ ih => exact ih.deeper
mutual
theorem Tr.imm : ∀ {n k : Nat} {d : PyData}, Tr n k d → Thr.imm d = true
  | _, _, _, .mk (ds := ds) _ _ _ _ h => by
    show (true && (true && (immAll ds && true))) = true
    rw [TrAll.imm h]
    rfl
theorem TrAll.imm : ∀ {n k : Nat} {ds : List PyData}, TrAll n k ds → immAll ds = true
  | _, _, _, .nil _ => rfl
  | _, _, _, .cons (d := d) (ds := ds) h a => by
    show (Thr.imm d && immAll ds) = true
    rw [Tr.imm h, TrAll.imm a]
    rfl
end
mutual
theorem Tr.sm : ∀ {n k : Nat} {d : PyData}, Tr n k d → Sm (2 * n) d
  | _, _, _, .mk (n := n) (ds := ds) hz h0 h1 hl h => by
    refine .tup (2 * n + 1) (by show 3 ≤ 500; decide) fun x hx => ?_
    simp only [List.mem_cons, List.not_mem_nil, or_false] at hx
    rcases hx with rfl | rfl | rfl
    · exact .str _ _
    · exact .int _ _
    · exact .tup (2 * n) (by omega) (TrAll.sm h)
theorem TrAll.sm : ∀ {n k : Nat} {ds : List PyData}, TrAll n k ds → ∀ d ∈ ds, Sm (2 * n) d
  | _, _, _, .nil _ => fun d hd => nomatch hd
  | _, _, _, .cons h a => by
    have h1 := Tr.sm h
    have h2 := TrAll.sm a
    intro d hd
    rcases List.mem_cons.mp hd with e | hd
    · rw [e]
      exact h1
    · exact h2 d hd
end
theorem Sm.succ {n : Nat} {d : PyData} (h : Sm n d) : Sm (n + 1) d := by
  induction h with
  | non n => exact .non _
  | bl n b => exact .bl _ b
  | int n i => exact .int _ i
  | str n z => exact .str _ z
  | lst n h _ ih => exact .lst _ h ih
  | tup n h _ ih => exact .tup _ h ih
theorem Sm.up {m n : Nat} {d : PyData} (h : Sm m d) (e : m ≤ n) : Sm n d := by
  induction e with
  | refl => exact h
  | step _ ih => exact ih.succ
theorem TrAll.mem : ∀ {n k : Nat} {ds : List PyData}, TrAll n k ds → ∀ {i : Nat} {d : PyData}, ds[i]? = some d → ∃ kd, kd ≤ k ∧ Tr n kd d
  | _, _, _, .cons (k := k) (k' := k') h _, 0, d, e => ⟨k, Nat.le_add_right _ _, by rw [← Option.some.inj e]; exact h⟩
  | _, _, _, .cons (k := k) (k' := k') _ a, i + 1, d, e => by
    obtain ⟨kd, h1, h2⟩ := TrAll.mem a (i := i) e
    exact ⟨kd, by omega, h2⟩
/-- one of them in another's place -/
theorem TrAll.set : ∀ {n k : Nat} {ds : List PyData}, TrAll n k ds → ∀ {i : Nat} {d : PyData}, ds[i]? = some d → ∃ kd k0, k = kd + k0 ∧ Tr n kd d ∧ ∀ (N K' : Nat) (d' : PyData), n ≤ N → Tr N K' d' → TrAll N (K' + k0) (ds.take i ++ [d'] ++ ds.drop (i + 1))
  | _, _, _, .cons (k := k) (k' := k') (ds := ds) h a, 0, d, e => ⟨k, k', rfl, by rw [← Option.some.inj e]; exact h, fun N K' d' hN hd => .cons hd (a.mono hN)⟩
  | _, _, _, .cons (k := k) (k' := k') (d := d0) (ds := ds) h a, i + 1, d, e => by
    obtain ⟨kd, k0, h1, h2, h3⟩ := TrAll.set a (i := i) e
    refine ⟨kd, k + k0, by omega, h2, fun N K' d' hN hd => ?_⟩
    have := h3 N K' d' hN hd
    rw [show K' + (k + k0) = k + (K' + k0) by omega]
    exact .cons (h.mono hN) this
/-! all nodes -/
def goneF : Nat → List Int → PyData → List (List Int × PyData)
  | 0, _, _ => []
  | n + 1, p, t => (p, t) :: (kidsF 0 p (partsD t)).flatMap fun x => goneF n x.1 x.2
theorem walk_gone : ∀ (n : Nat) {k : Nat} {t : PyData}, Tr n k t → ∀ (p : List Int) (c : Nat) (st : List (List Int × PyData)), walkW (k + c) ((p, t) :: st) = (goneF n p t).map (·.1) ++ walkW c st := by
  intro n
  induction n with
  | zero =>
    intro k t h
    cases h
  | succ n ih =>
    intro k t h p c st
    cases h with
    | mk hz h0 h1 hl ha =>
      rename_i k z i ds
      have all : ∀ {ds : List PyData} {k : Nat}, TrAll n k ds → ∀ (i : Nat) (c : Nat) (st : List (List Int × PyData)), walkW (k + c) (kidsF i p ds ++ st) = ((kidsF i p ds).flatMap fun x => goneF n x.1 x.2).map (·.1) ++ walkW c st := by
        intro ds
        induction ds with
        | nil =>
          intro k a i c st
          cases a
          rw [Nat.zero_add]
          rfl
        | cons d ds ihd =>
          intro k a i c st
          cases a with
          | cons h a =>
            rename_i k k'
            show walkW (k + k' + c) ((p ++ [(i : Int) + 1], d) :: (kidsF (i + 1) p ds ++ st)) = ((goneF n (p ++ [(i : Int) + 1]) d) ++ (kidsF (i + 1) p ds).flatMap fun x => goneF n x.1 x.2).map (·.1) ++ walkW c st
            rw [Nat.add_assoc, ih h, ihd a (i + 1) c st, List.map_append, List.append_assoc]
      rw [show k + 1 + c = (k + c) + 1 by omega]
      show p :: walkW (k + c) (kidsF 0 p ds ++ st) = p :: ((kidsF 0 p ds).flatMap fun x => goneF n x.1 x.2).map (·.1) ++ walkW c st
      rw [all ha 0 c st]
      rfl
theorem gone_walk {n k : Nat} {t : PyData} (h : Tr n k t) : walkW k [([], t)] = (goneF n [] t).map (·.1) := by
  have := walk_gone n h [] 0 []
  rw [Nat.add_zero] at this
  rw [this]
  show _ ++ [] = _
  rw [List.append_nil]
theorem kidsF_mem : ∀ (i : Nat) (p : List Int) (ds : List PyData) (x : List Int × PyData), x ∈ kidsF i p ds → ∃ (j : Nat) (d : PyData), ds[j]? = some d ∧ x = (p ++ [((i + j : Nat) : Int) + 1], d)
  | _, _, [], x, h => nomatch h
  | i, p, d :: ds, x, h => by
    rcases List.mem_cons.mp h with rfl | h
    · exact ⟨0, d, rfl, rfl⟩
    · obtain ⟨j, d', h1, h2⟩ := kidsF_mem (i + 1) p ds x h
      exact ⟨j + 1, d', h1, by rw [h2, show i + 1 + j = i + (j + 1) by omega]⟩
def intsD (s : List Int) : List PyData := s.map PyData.int
theorem stepD_at {t d : PyData} {j : Nat} (h : (partsD t)[j]? = some d) : stepD t (.int ((j : Int) + 1)) = some d := by
  have hj := (List.getElem?_eq_some_iff.mp h).1
  show (if 1 ≤ ((j : Int) + 1) ∧ ((j : Int) + 1) ≤ (partsD t).length then (partsD t)[((j : Int) + 1 - 1).toNat]? else none) = _
  rw [if_pos ⟨by omega, by omega⟩, show ((j : Int) + 1 - 1).toNat = j by omega]
  exact h
theorem gone_go : ∀ (n : Nat) {k : Nat} {t : PyData}, Tr n k t → ∀ (p : List Int) (x : List Int × PyData), x ∈ goneF n p t → ∃ s : List Int, x.1 = p ++ s ∧ goD t (intsD s) = some x.2 ∧ s.length < n ∧ ∃ k', k' ≤ k ∧ Tr n k' x.2 := by
  intro n
  induction n with
  | zero =>
    intro k t h
    cases h
  | succ n ih =>
    intro k t h p x hx
    rcases List.mem_cons.mp hx with rfl | hx1
    · exact ⟨[], (List.append_nil _).symm, rfl, by show 0 < n + 1; omega, k, Nat.le_refl _, h⟩
    · obtain ⟨y, hy, hx2⟩ := List.mem_flatMap.mp hx1
      clear hx hx1
      obtain ⟨j, d, hd, rfl⟩ := kidsF_mem 0 p _ y hy
      cases h with
      | mk hz h0 h1 hl ha =>
        rename_i k z i ds
        obtain ⟨kd, hkd, htd⟩ := ha.mem (i := j) hd
        obtain ⟨s, e1, e2, e3, k', hk', htr⟩ := ih htd _ x hx2
        refine ⟨((j : Int) + 1) :: s, ?_, ?_, by rw [List.length_cons]; omega, k', by omega, htr.deeper⟩
        · rw [e1, Nat.zero_add, List.append_assoc]
          rfl
        · show (match stepD _ (.int ((j : Int) + 1)) with | some u => goD u (intsD s) | none => none) = _
          rw [stepD_at (t := .tuple [.str z, .int i, .tuple ds]) (j := j) hd]
          exact e2
theorem gone_len : ∀ (n : Nat) {k : Nat} {t : PyData}, Tr n k t → ∀ p, (goneF n p t).length ≤ k := by
  intro n
  induction n with
  | zero =>
    intro k t h
    cases h
  | succ n ih =>
    intro k t h p
    cases h with
    | mk hz h0 h1 hl ha =>
      rename_i k z i ds
      have all : ∀ {ds : List PyData} {k : Nat}, TrAll n k ds → ∀ (i : Nat), ((kidsF i p ds).flatMap fun x => goneF n x.1 x.2).length ≤ k := by
        intro ds
        induction ds with
        | nil =>
          intro k a i
          exact Nat.zero_le _
        | cons d ds ihd =>
          intro k a i
          cases a with
          | cons h a =>
            rename_i k k'
            show ((goneF n (p ++ [(i : Int) + 1]) d) ++ (kidsF (i + 1) p ds).flatMap fun x => goneF n x.1 x.2).length ≤ k + k'
            rw [List.length_append]
            have := ih h (p ++ [(i : Int) + 1])
            have := ihd a (i + 1)
            omega
      show ((kidsF 0 p ds).flatMap fun x => goneF n x.1 x.2).length + 1 ≤ k + 1
      have := all ha 0
      omega
/-! a part put in a place -/
def setP (ds : List PyData) (j : Int) (d : PyData) : List PyData := ds.take (j - 1).toNat ++ [d] ++ ds.drop j.toNat
def reD : PyData → List PyData → PyData
  | .tuple [a, b, _], ds => .tuple [a, b, .tuple ds]
  | t, _ => t
def putD : PyData → List Int → PyData → PyData
  | _, [], r => r
  | t, j :: ps, r => reD t (setP (partsD t) j (putD ((partsD t).getD (j - 1).toNat .none) ps r))
/-- one step, told -/
theorem step_is {t u : PyData} {j : Int} (h : stepD t (.int j) = some u) : 1 ≤ j ∧ j ≤ (partsD t).length ∧ (partsD t)[(j - 1).toNat]? = some u := by
  have h : (if 1 ≤ j ∧ j ≤ (partsD t).length then (partsD t)[(j - 1).toNat]? else none) = some u := h
  split at h
  · rename_i c
    exact ⟨c.1, c.2, h⟩
  · cases h
theorem go_cons {t u : PyData} {j : Int} {s : List Int} (h : goD t (intsD (j :: s)) = some u) : ∃ d, stepD t (.int j) = some d ∧ goD d (intsD s) = some u := by
  have h : (match stepD t (.int j) with | some d => goD d (intsD s) | none => none) = some u := h
  cases e : stepD t (.int j) with
  | none => rw [e] at h; cases h
  | some d => rw [e] at h; exact ⟨d, rfl, h⟩
theorem setP_len {ds : List PyData} {j : Int} {d : PyData} (h1 : 1 ≤ j) (h2 : j ≤ ds.length) : (setP ds j d).length = ds.length := by
  unfold setP
  rw [List.length_append, List.length_append, List.length_take, List.length_drop]
  show _ + 1 + _ = _
  omega
theorem setP_at {ds : List PyData} {j : Int} {d : PyData} (h1 : 1 ≤ j) (h2 : j ≤ ds.length) : (setP ds j d)[(j - 1).toNat]? = some d := by
  unfold setP
  have l1 : (ds.take (j - 1).toNat).length = (j - 1).toNat := by
    rw [List.length_take]
    omega
  rw [List.append_assoc, List.getElem?_append_right (by omega), l1, Nat.sub_self]
  rfl
theorem setP_self {ds : List PyData} {j : Int} {d : PyData} (h1 : 1 ≤ j) (h : ds[(j - 1).toNat]? = some d) : setP ds j d = ds := by
  unfold setP
  have hl := (List.getElem?_eq_some_iff.mp h).1
  have e : ds[(j - 1).toNat] = d := by
    rw [List.getElem?_eq_getElem hl] at h
    exact Option.some.inj h
  rw [show j.toNat = (j - 1).toNat + 1 by omega, ← e, List.append_assoc]
  show ds.take (j - 1).toNat ++ (ds[(j - 1).toNat] :: ds.drop ((j - 1).toNat + 1)) = ds
  rw [← List.drop_eq_getElem_cons hl, List.take_append_drop]
theorem setP_setP {ds : List PyData} {j : Int} {d e : PyData} (h1 : 1 ≤ j) (h2 : j ≤ ds.length) : setP (setP ds j d) j e = setP ds j e := by
  unfold setP
  have l1 : (ds.take (j - 1).toNat).length = (j - 1).toNat := by
    rw [List.length_take]
    omega
  have e1 : (ds.take (j - 1).toNat ++ [d] ++ ds.drop j.toNat).take (j - 1).toNat = ds.take (j - 1).toNat := by
    rw [List.append_assoc, List.take_left' l1]
  have e2 : (ds.take (j - 1).toNat ++ [d] ++ ds.drop j.toNat).drop j.toNat = ds.drop j.toNat := by
    rw [List.drop_left' (by rw [List.length_append, l1]; show _ + 1 = _; omega)]
  rw [e1, e2]
theorem Tr.re {n k : Nat} {t : PyData} (h : Tr n k t) (ds : List PyData) : partsD (reD t ds) = ds ∧ reD t (partsD t) = t ∧ ∀ es, reD (reD t ds) es = reD t es := by
  cases h
  exact ⟨rfl, rfl, fun _ => rfl⟩
theorem getD_at {ds : List PyData} {i : Nat} {d : PyData} (h : ds[i]? = some d) : ds.getD i .none = d := by
  rw [List.getD_eq_getElem?_getD, h]
  rfl
theorem put_self : ∀ {s : List Int} {n k : Nat} {t u : PyData}, Tr n k t → goD t (intsD s) = some u → putD t s u = t
  | [], _, _, t, u, _, h => by
    cases h
    rfl
  | j :: s, n, k, t, u, ht, h => by
    obtain ⟨d, h1, h2⟩ := go_cons h
    obtain ⟨n', k', _, htd⟩ := ht.part h1
    obtain ⟨g1, g2, g3⟩ := step_is h1
    show reD t (setP (partsD t) j (putD ((partsD t).getD (j - 1).toNat .none) s u)) = t
    rw [getD_at g3, put_self htd h2, setP_self g1 g3]
    exact (ht.re []).2.1
theorem put_get : ∀ {s : List Int} {n k : Nat} {t u : PyData} (r : PyData), Tr n k t → goD t (intsD s) = some u → goD (putD t s r) (intsD s) = some r
  | [], _, _, t, u, r, _, h => rfl
  | j :: s, n, k, t, u, r, ht, h => by
    obtain ⟨d, h1, h2⟩ := go_cons h
    obtain ⟨n', k', _, htd⟩ := ht.part h1
    obtain ⟨g1, g2, g3⟩ := step_is h1
    show (match stepD (reD t (setP (partsD t) j (putD ((partsD t).getD (j - 1).toNat .none) s r))) (.int j) with | some d => goD d (intsD s) | none => none) = some r
    rw [getD_at g3]
    have e : stepD (reD t (setP (partsD t) j (putD d s r))) (.int j) = some (putD d s r) := by
      show (if 1 ≤ j ∧ j ≤ (partsD (reD t (setP (partsD t) j (putD d s r)))).length then (partsD (reD t (setP (partsD t) j (putD d s r))))[(j - 1).toNat]? else none) = _
      rw [(ht.re _).1, if_pos ⟨g1, by rw [setP_len g1 g2]; exact g2⟩, setP_at g1 g2]
    rw [e]
    exact put_get r htd h2
theorem put_put : ∀ {s : List Int} {n k : Nat} {t u : PyData} (r q : PyData), Tr n k t → goD t (intsD s) = some u → putD (putD t s r) s q = putD t s q
  | [], _, _, t, u, r, q, _, h => rfl
  | j :: s, n, k, t, u, r, q, ht, h => by
    obtain ⟨d, h1, h2⟩ := go_cons h
    obtain ⟨n', k', _, htd⟩ := ht.part h1
    obtain ⟨g1, g2, g3⟩ := step_is h1
    have e1 : putD t (j :: s) r = reD t (setP (partsD t) j (putD d s r)) := by
      show reD t (setP (partsD t) j (putD ((partsD t).getD (j - 1).toNat .none) s r)) = _
      rw [getD_at g3]
    have e2 : putD t (j :: s) q = reD t (setP (partsD t) j (putD d s q)) := by
      show reD t (setP (partsD t) j (putD ((partsD t).getD (j - 1).toNat .none) s q)) = _
      rw [getD_at g3]
    rw [e1, e2]
    show reD (reD t (setP (partsD t) j (putD d s r))) (setP (partsD (reD t (setP (partsD t) j (putD d s r)))) j (putD ((partsD (reD t (setP (partsD t) j (putD d s r)))).getD (j - 1).toNat .none) s q)) = _
    rw [(ht.re _).1, (ht.re _).2.2, getD_at (setP_at g1 g2), put_put r q htd h2, setP_setP g1 g2]
theorem put_tr : ∀ {s : List Int} {n k m k' : Nat} {t u r : PyData}, Tr n k t → Tr m k' r → goD t (intsD s) = some u → ∃ K', K' ≤ k + k' ∧ Tr (n + m) K' (putD t s r)
  | [], n, k, m, k', t, u, r, ht, hr, h => ⟨k', by omega, hr.mono (by omega)⟩
  | j :: s, n, k, m, k', t, u, r, ht, hr, h => by
    obtain ⟨d, h1, h2⟩ := go_cons h
    obtain ⟨g1, g2, g3⟩ := step_is h1
    have e1 : putD t (j :: s) r = reD t (setP (partsD t) j (putD d s r)) := by
      show reD t (setP (partsD t) j (putD ((partsD t).getD (j - 1).toNat .none) s r)) = _
      rw [getD_at g3]
    rw [e1]
    cases ht with
    | mk hz h0 h1' hl ha =>
      rename_i n k z i ds
      have g3 : ds[(j - 1).toNat]? = some d := g3
      have g2 : j ≤ (ds.length : Int) := g2
      obtain ⟨kd, k0, q1, q2, q3⟩ := ha.set g3
      obtain ⟨K', hK, htr⟩ := put_tr (s := s) q2 hr h2
      have hall := q3 (n + m) K' _ (by omega) htr
      refine ⟨K' + k0 + 1, by omega, ?_⟩
      rw [show n + 1 + m = (n + m) + 1 by omega]
      refine .mk hz h0 h1' ?_ ?_
      · show (setP ds j (putD d s r)).length ≤ 2
        rw [setP_len g1 g2]
        exact hl
      · show TrAll (n + m) (K' + k0) (setP ds j (putD d s r))
        unfold setP
        rw [show j.toNat = (j - 1).toNat + 1 by omega]
        exact hall
/-! lists of paths -/
theorem ints_lay : ∀ p : List Int, PyData.canLayAll0 (p.map PyData.int) = true ∧ PyData.depthAll (p.map PyData.int) = 0
  | [] => ⟨rfl, rfl⟩
  | i :: p => by
    obtain ⟨h1, h2⟩ := ints_lay p
    refine ⟨?_, ?_⟩
    · show (true && PyData.canLayAll0 (p.map PyData.int)) = true
      rw [h1]
      rfl
    · show max 0 (PyData.depthAll (p.map PyData.int)) = 0
      rw [h2]
      rfl
theorem ints_sm (p : List Int) (h : p.length ≤ 500) (n : Nat) : Sm (n + 1) (pathD p) := .tup n (by rw [List.length_map]; exact h) fun d hd => by
  obtain ⟨i, _, rfl⟩ := List.mem_map.mp hd
  exact .int _ _
theorem paths_sm (ps : List (List Int)) (h : ps.length ≤ 500) (hp : ∀ p ∈ ps, p.length ≤ 500) (n : Nat) : Sm (n + 2) (.list (ps.map pathD)) := .lst (n + 1) (by rw [List.length_map]; exact h) fun d hd => by
  obtain ⟨p, hpm, rfl⟩ := List.mem_map.mp hd
  exact ints_sm p (hp p hpm) n
def pairD (x : List Int × PyData) : PyData := .tuple [pathD x.1, x.2]
theorem ints_imm : ∀ p : List Int, immAll (p.map PyData.int) = true := immAll_map fun _ => rfl
theorem pair_imm {n k : Nat} {x : List Int × PyData} (h : Tr n k x.2) : imm (pairD x) = true := by
  show (immAll (x.1.map PyData.int) && (imm x.2 && true)) = true
  rw [ints_imm, h.imm]
  rfl
/-- a tree in the heap -/
theorem tr_parts {K : PySem.W.Frag} {H : Hp} {n k : Nat} {v : V} {t : PyData} (h : Tr n k t) (hd : Dp K H v t) : ∃ (q r : Addr) (z : Str) (i : Int) (vs : List V), v = .ref q ∧ SqT K H q [.str z, .int i, .ref r] ∧ SqT K H r vs ∧ DpAll K H vs (partsD t) ∧ vs.length ≤ 2 ∧ (∀ es, reD t es = .tuple [.str z, .int i, .tuple es]) := by
  cases h with
  | mk hz h0 h1 hl ha =>
    rename_i n k z i ds
    cases hd with
    | tup hS hA =>
      rename_i q xs
      cases hA with
      | cons a1 hA =>
        cases hA with
        | cons a2 hA =>
          cases hA with
          | cons a3 hA =>
            cases hA
            cases a1
            cases a2
            cases a3 with
            | tup hS3 hA3 =>
              rename_i p ps
              exact ⟨q, p, z, i, ps, rfl, hS, hS3, hA3, by rw [dpAll_len hA3]; exact hl, fun _ => rfl⟩
theorem dp_path {K : PySem.W.Frag} {H : Hp} {v : V} {p : List Int} (h : Dp K H v (pathD p)) : ∃ q, v = .ref q ∧ SqT K H q (p.map V.int) := by
  cases h with
  | tup hS hA =>
    rename_i q xs
    refine ⟨q, rfl, ?_⟩
    have : ∀ {vs : List V} {p : List Int}, DpAll K H vs (p.map PyData.int) → vs = p.map V.int := by
      intro vs
      induction vs with
      | nil =>
        intro p a
        cases p with
        | nil => rfl
        | cons i p => cases a
      | cons v vs ih =>
        intro p a
        cases p with
        | nil => cases a
        | cons i p =>
          cases a with
          | cons h a =>
            cases h
            rw [ih a]
            rfl
    rw [← this hA]
    exact hS
theorem path_dp {K : PySem.W.Frag} {H : Hp} {q : Addr} {p : List Int} (h : SqT K H q (p.map V.int)) : Dp K H (.ref q) (pathD p) := by
  refine .tup h ?_
  clear h
  induction p with
  | nil => exact .nil
  | cons i p ih => exact .cons (.int i) ih
theorem dp_pair {K : PySem.W.Frag} {H : Hp} {v : V} {x : List Int × PyData} (h : Dp K H v (pairD x)) : ∃ q pv nv, v = .ref q ∧ SqT K H q [pv, nv] ∧ Dp K H pv (pathD x.1) ∧ Dp K H nv x.2 := by
  cases h with
  | tup hS hA =>
    rename_i q xs
    cases hA with
    | cons a1 hA =>
      cases hA with
      | cons a2 hA =>
        cases hA
        exact ⟨q, _, _, rfl, hS, a1, a2⟩
/-! ### a part at a place, and another one put there -/
abbrev s_put_at : Stmt := top 10
abbrev N_put_at : List Str := ["tree", "path", "part", "nodes", "whole", "at", "making", "own", "parts", "place"]
abbrev P_put_at : List Str := ["tree", "path", "part"]
theorem sc_put_at : FnScope N_put_at P_put_at (defScope s_put_at) := ⟨rfl, rfl, rfl, by decide +kernel, rfl, by decide +kernel, by decide +kernel⟩
abbrev s__law_gone : Stmt := top 26
abbrev N__law_gone : List Str := ["_law_tree", "_law_path", "_law_found", "_law_at", "_law_part"]
abbrev P__law_gone : List Str := ["_law_tree", "_law_path"]
theorem sc__law_gone : FnScope N__law_gone P__law_gone (defScope s__law_gone) := ⟨rfl, rfl, rfl, by decide +kernel, rfl, by decide +kernel, by decide +kernel⟩
abbrev s__law_put : Stmt := top 28
abbrev N__law_put : List Str := ["_law_tree", "_law_path", "_law_part", "_law_parts", "_law_place"]
abbrev P__law_put : List Str := ["_law_tree", "_law_path", "_law_part"]
theorem sc__law_put : FnScope N__law_put P__law_put (defScope s__law_put) := ⟨rfl, rfl, rfl, by decide +kernel, rfl, by decide +kernel, by decide +kernel⟩
def spPart5 (K : PySem.W.Frag) : Sp := fun vs H Q _ => ∃ (v x : V) (t u : PyData) (s : List Int) (n k : Nat), vs = [v, x] ∧ Dp K H v t ∧ Tr n k t ∧ Dp K H x (pathD s) ∧ s.length ≤ 400 ∧ goD t (intsD s) = some u ∧ ∀ (H' : Hp) (uv : V), Same H H' → Dp K H uv u → Q uv H'
def spPut5 (K : PySem.W.Frag) (m : Nat) : Sp := fun vs H Q _ => ∃ (v x rv : V) (t u r : PyData) (s : List Int) (n k : Nat), vs = [v, x, rv] ∧ Dp K H v t ∧ Tr n k t ∧ Dp K H x (pathD s) ∧ s.length ≤ m ∧ goD t (intsD s) = some u ∧ Dp K H rv r ∧ ∀ (H' : Hp) (uv : V), Same H H' → Dp K H' uv (putD t s r) → Q uv H'
def spGone (K : PySem.W.Frag) (n : Nat) : Sp := fun vs H Q _ => ∃ (v pv : V) (t : PyData) (p : List Int) (k : Nat), vs = [v, pv] ∧ Dp K H v t ∧ Tr n k t ∧ Dp K H pv (pathD p) ∧ p.length + n ≤ 300 ∧ k ≤ 400 ∧
  ∀ (H' : Hp) (l : Addr) (es : List V), Same H H' → H l = none → H' l = some (.lst es) → DpAll K H' es ((goneF n p t).map pairD) → Q (.ref l) H'
structure Pu (mg : Str → Option Value) : Prop where
  reversed : mg "reversed" = none
  range : mg "range" = none
  len : mg "len" = none
structure Go5 (mg : Str → Option Value) : Prop where
  enumerate : mg "enumerate" = none
section
variable {P : Program} {w : World} {K : PySem.W.Frag} {mg : Str → Option Value} {base : Heap} {C : Addr}
theorem ok_part5 (cway_to : CalX P w K mg base 10 "way_to" (spWay K C) []) (D : Dd K mg "part_at" s_part_at P_part_at) : CalX P w K mg base 11 "part_at" (spPart5 K) [] := by
  obtain ⟨f, fd, F, g, b⟩ := D.ex
  refine ⟨f, fd, _, [], F.okX sc_part_at (fun vs H Q E h => ?_) (fun cdv A' outer s H vs Q E hr h => ?_), g, F.kp, b, .nil⟩
  · obtain ⟨v, x, t, u, s, n, k, rfl, _⟩ := h
    rfl
  · obtain ⟨v, x, t, u, p, n, k, rfl, hv, tr, hx, hl, hgo, q⟩ := h
    refine ⟨_, (pss_one (ps_ret (pe_ix ix_list (pe_cT cway_to hr (by omega) (by rfl) (takes_of rfl rfl rfl rfl) (pa_cons (pv 0) (pa_cons (pv 1) pa_nil))) (pe_un un_neg pe_int) (fun _ _ => rfl)))), ?_⟩
    refine ⟨_, rfl, _, rfl, v, x, t, pathD p, n, k, rfl, hv, tr, hx, ints_sm p (by omega) 5, ?_⟩
    refine .inl ⟨by show (goD t (intsD p)).isSome = true; rw [hgo]; rfl, fun H' L ws ps ed s1 nL hL hwl hws => ?_⟩
    have ed : PyData.tuple (intsD p) = .tuple ps := ed
    injection ed with ed
    subst ed
    have hil : (intsD p).length < ws.length := by omega
    obtain ⟨tu, n', k', h1, h2, h3⟩ := hws (intsD p).length ws[(intsD p).length] (by simp [hil])
    rw [List.take_length, hgo] at h1
    cases h1
    exact ⟨_, rfl, L, ws, _, ws[(intsD p).length], rfl, rfl, SqL.of hL, at_last hwl (by simp [hil]), q _ _ s1 h2⟩
theorem ok_put5 (T : Pu mg) (cway_to : CalX P w K mg base 10 "way_to" (spWay K C) []) (D : Dd K mg "put_at" s_put_at P_put_at) : CalX P w K mg base 11 "put_at" (spPut5 K 400) [] := by
  obtain ⟨f, fd, F, g, b⟩ := D.ex
  refine ⟨f, fd, _, [], F.okX sc_put_at (fun vs H Q E h => ?_) (fun cdv A' outer s H vs Q E hr h => ?_), g, F.kp, b, .nil⟩
  · obtain ⟨v, x, r, t, u, rd, p, n, k, rfl, _⟩ := h
    rfl
  · obtain ⟨v, x, r, t, uu, rd, p, n, k, rfl, hv, tr, hx, hl, hgo, hrd, q⟩ := h
    refine ⟨_, (pss_cons (ps_set (i := 3) sc_put_at.nd rfl (Or.inl rfl) (pe_cT cway_to hr (by omega) (by rfl) (takes_of rfl rfl rfl rfl) (pa_cons (pv 0) (pa_cons (pv 1) pa_nil))))
        (pss_cons (ps_set (i := 4) sc_put_at.nd rfl (Or.inl rfl) (pv 2))
        (pss_cons (ps_for (passes_of rfl) rfl (pi_revR (by rfl) T.reversed (prg_1 (by rfl) T.range (pe_callB call_len_seq (by rfl) T.len PySem.boot_len (pa_cons (pv 1) pa_nil)))) (pg_name (i := 5) sc_put_at.nd rfl (Or.inl rfl))
          (pss_cons (ps_asg (pe_ix ix_list (pv 3) (pv 5) (fun _ _ => rfl)) (pg_tup rfl (pgs_cons (pg_name (i := 6) sc_put_at.nd rfl (Or.inl rfl)) (pgs_cons (pg_name (i := 7) sc_put_at.nd rfl (Or.inl rfl)) (pgs_cons (pg_name (i := 8) sc_put_at.nd rfl (Or.inl rfl)) pgs_nil)))))
        (pss_cons (ps_set (i := 9) sc_put_at.nd rfl (Or.inl rfl) (pe_ix ix_tup (pv 1) (pv 5) (fun _ _ => rfl)))
        (pss_one (ps_set (i := 4) sc_put_at.nd rfl (Or.inl rfl) (pe_tup (pa_cons (pv 6) (pa_cons (pv 7) (pa_cons (pe_op op_catAny (pe_op op_catAny (pe_slice sl_any (pv 8) po_none (po_some (pe_op op_sub (pv 9) pe_int))) (pe_tup (pa_cons (pv 4) pa_nil))) (pe_slice sl_any (pv 8) (po_some (pv 9)) po_none)) pa_nil)))))))))
        (pss_one (ps_ret (pv 4)))))), ?_⟩
    refine ⟨_, rfl, _, rfl, v, x, t, pathD p, n, k, rfl, hv, tr, hx, ints_sm p (by omega) 5, ?_⟩
    refine .inl ⟨by show (goD t (intsD p)).isSome = true; rw [hgo]; rfl, fun H1 L ws ps ed s1 nL hL hwl hws => ?_⟩
    have ed : PyData.tuple (intsD p) = .tuple ps := ed
    injection ed with ed
    subst ed
    have lip : (intsD p).length = p.length := List.length_map _
    obtain ⟨c, rfl, hS⟩ := dp_path hx
    have lxs : (p.map V.int).length = p.length := List.length_map _
    refine ⟨_, rfl, _, rfl, c, p.map V.int, rfl, .inr (Same.seqT s1 hS), _, rfl, by decide, by decide, by omega, by omega, ?_⟩
    refine for_rangeC (fun i σ H3 => ∃ u y5 y6 y7 y8 y9, σ = [some v, some (.ref c), some r, some (.ref L), some u, y5, y6, y7, y8, y9] ∧ Same H1 H3 ∧ i ≤ p.length ∧ ∃ tu, goD t (intsD (p.take (p.length - i))) = some tu ∧ Dp K H3 u (putD tu (p.drop (p.length - i)) rd)) ⟨r, none, none, none, none, none, rfl, Same.refl _, Nat.zero_le _, uu, ?_, ?_⟩ ?_ ?_
    · rw [Nat.sub_zero, List.take_length]
      exact hgo
    · rw [Nat.sub_zero, List.drop_length]
      exact dp_same s1 hrd
    · rintro i σ H3 hi ⟨u, y5, y6, y7, y8, y9, rfl, s3, hip, tu', hg', hu'⟩
      have hi' : i < p.length := by
        rw [lxs] at hi
        omega
      obtain ⟨m, hm, hml, emi⟩ : ∃ m : Nat, (0 + (((((p.map V.int).length : Nat) : Int) - 0).toNat : Int) - 1 + (i : Nat) * (-1) : Int) = (m : Int) ∧ m < p.length ∧ p.length - i = m + 1 := ⟨p.length - 1 - i, by rw [lxs]; omega, by omega, by omega⟩
      rw [hm]
      rw [emi] at hg' hu'
      have hmw : m < ws.length := by omega
      obtain ⟨tu, n', k', hg, hu, htr⟩ := hws m ws[m] (by simp [hmw])
      have hg : goD t (intsD (p.take m)) = some tu := by
        unfold intsD
        rw [List.map_take]
        exact hg
      obtain ⟨q1, q2, y1, y2, us, eu, hS1, hS2, hA2, hus, hre⟩ := tr_parts htr hu
      have lw := dpAll_len hA2
      have hst : stepD tu (.int p[m]) = some tu' := by
        have e : intsD (p.take (m + 1)) = intsD (p.take m) ++ [.int p[m]] := by
          unfold intsD
          rw [List.take_add_one, List.getElem?_eq_getElem hml, List.map_append]
          rfl
        rw [e, goD_snoc, hg] at hg'
        exact hg'
      obtain ⟨j1, j2, j3⟩ := step_is hst
      have edr : p.drop m = p[m] :: p.drop (m + 1) := List.drop_eq_getElem_cons hml
      obtain ⟨j, ej⟩ : ∃ j, j = p[m] := ⟨_, rfl⟩
      rw [← ej] at hst j1 j2 j3 edr
      have s13 := s1.trans s3
      refine ⟨_, rfl, _, rfl, L, ws, _, .ref q1, rfl, rfl, SqL.of (s3 _ _ hL), ?_, q1, _, rfl, Same.seqT s13 hS1, rfl, _, _, rfl, _, _, rfl, _, _, rfl, rfl, ?_⟩
      · rw [← eu]
        exact atI_nat (by simp [hmw])
      refine ⟨_, rfl, _, rfl, c, p.map V.int, _, .int j, rfl, rfl, Same.seqT s13 hS, ?_, ?_⟩
      · rw [ej]
        exact atI_nat (by simp [hml])
      refine ⟨_, rfl, _, rfl, _, rfl, _, rfl, _, _, rfl, rfl, _, rfl, q2, us, rfl, Same.seqT s13 hS2, fun H4 p4 s4 hp4 => ?_⟩
      refine ⟨_, rfl, by show 1 ≤ sizeLine; decide, fun p5 n5 => ?_⟩
      have s5 := same_upd (o := .tup [u]) n5
      have hc1 := cut_len us none (some (j - 1))
      have hc2 := cut_len us (some j) none
      refine ⟨p4, p5, _, [u], rfl, rfl, Same.seqT s5 hp4, SqT.of upd_same, Nat.le_trans (show _ ≤ 3 from by
        show (cutV us none (some (j - 1))).length + 1 ≤ 3
        omega) (by decide), fun H6 p6 s6 hp6 => ?_⟩
      have s46 := (s4.trans s5).trans s6
      refine ⟨_, rfl, _, rfl, _, rfl, q2, us, rfl, Same.seqT (s13.trans s46) hS2, fun H7 p7 s7 hp7 => ?_⟩
      refine ⟨p6, p7, _, _, rfl, rfl, Same.seqT s7 hp6, hp7, Nat.le_trans (show _ ≤ 5 from by
        rw [List.length_append]
        show (cutV us none (some (j - 1))).length + 1 + (cutV us (some j) none).length ≤ 5
        omega) (by decide), fun H8 p8 s8 hp8 => ?_⟩
      refine ⟨by show 3 ≤ sizeLine; decide, fun p9 n9 => ?_⟩
      have s9 := same_upd (o := .tup [.str y1, .int y2, .ref p8]) n9
      have s39 := ((s46.trans s7).trans s8).trans s9
      refine ⟨_, _, _, _, _, _, rfl, s3.trans s39, by omega, tu, by rw [show p.length - (i + 1) = m by omega]; exact hg, ?_⟩
      rw [show p.length - (i + 1) = m by omega, edr]
      show Dp K _ (.ref p9) (reD tu (setP (partsD tu) j (putD ((partsD tu).getD (j - 1).toNat .none) (p.drop (m + 1)) rd)))
      rw [getD_at j3, hre]
      refine .tup (SqT.of upd_same) (.cons (.str _) (.cons (.int _) (.cons (.tup (Same.seqT s9 hp8) ?_) .nil)))
      have e1 : cutV us none (some (j - 1)) = us.take (j - 1).toNat := by
        have := cutV_to us (j - 1).toNat
        rw [show (((j - 1).toNat : Nat) : Int) = j - 1 by omega] at this
        exact this
      have e2 : cutV us (some j) none = us.drop j.toNat := by
        have := cutV_from us j.toNat
        rw [show ((j.toNat : Nat) : Int) = j by omega] at this
        exact this
      rw [e1, e2]
      unfold setP
      have hA9 := dpAll_same (s13.trans s39) hA2
      exact dpAll_appI (dpAll_appI (dpAll_take _ hA9) (.cons (dp_same s39 hu') .nil)) (dpAll_drop _ hA9)
    · rintro σ H3 ⟨u, y5, y6, y7, y8, y9, rfl, s3, hip, tu', hg', hu'⟩
      rw [show p.length - ((((p.map V.int).length : Nat) : Int) - 0).toNat = 0 by rw [lxs]; omega] at hg' hu'
      cases hg'
      exact ⟨_, rfl, q _ _ (s1.trans s3) hu'⟩
/-! by the law's own going -/
theorem ok_gone (T : Go5 mg) (D : Dd K mg "_law_gone" s__law_gone P__law_gone) : ∀ n, C8.Cal P w K mg base (n + 1) "_law_gone" (spGone K n) [] := by
  intro n
  induction n with
  | zero =>
    refine D.cal sc__law_gone (fun vs H Q E h => ?_) (fun f cdv A outer s H vs Q E hr h => ?_)
    · obtain ⟨v, pw, t, p, k, rfl, _⟩ := h
      rfl
    · obtain ⟨v, pw, t, p, k, rfl, _, tr, _⟩ := h
      cases tr
  | succ n c_law_gone =>
    refine D.cal sc__law_gone (fun vs H Q E h => ?_) (fun f cdv A outer s H vs Q E hr h => ?_)
    · obtain ⟨v, pw, t, p, k, rfl, _⟩ := h
      rfl
    · obtain ⟨v, pw, t, p, k, rfl, hv, tr, hp, hpn, hk, q⟩ := h
      refine ⟨_, (pss_cons (ps_set (i := 2) sc__law_gone.nd rfl (Or.inl rfl) (pe_lst (pa_cons (pe_tup (pa_cons (pv 1) (pa_cons (pv 0) pa_nil))) pa_nil)))
          (pss_cons (ps_for PassesOwn.never rfl (pi_enumT (by rfl) T.enumerate (pa_cons (pe_ix ix_tup (pv 0) pe_int (fun _ _ => rfl)) pa_nil)) (pg_tup rfl (pgs_cons (pg_name (i := 3) sc__law_gone.nd rfl (Or.inl rfl)) (pgs_cons (pg_name (i := 4) sc__law_gone.nd rfl (Or.inl rfl)) pgs_nil)))
            (pss_one (ps_set (i := 2) sc__law_gone.nd rfl (Or.inl rfl) (pe_op op_cat (pv 2) (C8.pe_c c_law_gone hr (by omega) (by rfl) (pa_cons (pv 4) (pa_cons (pe_op op_catAny (pv 1) (pe_tup (pa_cons (pe_op op_add (pv 3) pe_int) pa_nil))) pa_nil)))))))
          (pss_one (ps_ret (pv 2))))), ?_⟩
      obtain ⟨q1, q2, z, i, us, rfl, hS1, hS2, hA2, hus, hre⟩ := tr_parts tr hv
      obtain ⟨pq, rfl, hpS⟩ := dp_path hp
      refine ⟨_, rfl, _, rfl, by show 2 ≤ sizeLine; decide, fun t1 n1 => ⟨by show 1 ≤ sizeLine; decide, fun L nL => ?_⟩⟩
      have g1 := same_upd (o := .tup [.ref pq, .ref q1]) n1
      have g2 := same_upd (o := .lst [.ref t1]) nL
      have s0 := g1.trans g2
      refine ⟨_, rfl, q1, _, 2, .ref q2, rfl, rfl, Same.seqT s0 hS1, atI_nat (j := 2) rfl, q2, us, rfl, Same.seqT s0 hS2, ?_⟩
      have hpar : ∃ k', k' ≤ k ∧ TrAll n k' (partsD t) := by
        cases tr with
        | mk hz h0 h1 hl ha => exact ⟨_, by omega, ha⟩
      obtain ⟨k', hk', hall⟩ := hpar
      refine for_it walk_enumT (fun j σ Y => ∃ y3 y4 l es, σ = [some (.ref q1), some (.ref pq), some (.ref l), y3, y4] ∧ Same H Y ∧ H l = none ∧ Y l = some (.lst es) ∧ DpAll K Y es (((p, t) :: (kidsF 0 p ((partsD t).take j)).flatMap fun x => goneF n x.1 x.2).map pairD) ∧ SqT K Y q2 us ∧ j ≤ us.length)
        ⟨none, none, L, [.ref t1], rfl, s0, g1.free nL, upd_same, ?_, Same.seqT s0 hS2, Nat.zero_le _⟩ (fun i σ Y _ ⟨_, _, _, _, _, _, _, _, _, h, _⟩ => h) ?_ ?_
      · rw [List.take_zero]
        exact .cons (.tup (SqT.of (g2 _ _ upd_same)) (.cons (dp_same s0 hp) (.cons (dp_same s0 hv) .nil))) .nil
      · rintro j x σ Y0 Yz hj ⟨y3, y4, l, es, rfl, sY, nl, hl, hes, hS2Y, hjl⟩ ⟨TT, xx, yy, rfl, nT, rfl, ex, ey⟩
        cases ex
        have ey : us[j]? = some yy := ey
        obtain ⟨d, hd, hyd⟩ := dpAll_at hA2 ey
        obtain ⟨kd, hkd, htd⟩ := hall.mem hd
        have sT := same_upd (o := .tup [.int ((j : Nat) : Int), yy]) nT
        have hTT : SqT K (upd Y0 TT (.tup [.int ((j : Nat) : Int), yy])) TT [.int ((j : Nat) : Int), yy] := SqT.of upd_same
        have sY1 := sY.trans sT
        have hl1 := sT _ _ hl
        have hes1 := dpAll_same sT hes
        obtain ⟨Y, eY⟩ : ∃ Y, Y = upd Y0 TT (.tup [.int ((j : Nat) : Int), yy]) := ⟨_, rfl⟩
        rw [← eY] at hTT sY1 hl1 hes1 ⊢
        have les := dpAll_len hes
        have lgone := gone_len (n + 1) tr p
        refine ⟨TT, _, rfl, hTT, rfl, _, _, rfl, _, _, rfl, rfl, ?_⟩
        refine ⟨_, rfl, _, rfl, _, rfl, _, rfl, _, _, rfl, rfl, by show 1 ≤ sizeLine; decide, fun t2 n2 => ?_⟩
        have g3 := same_upd (o := .tup [.int (((j : Nat) : Int) + 1)]) n2
        refine ⟨pq, t2, p.map V.int, [.int (((j : Nat) : Int) + 1)], rfl, rfl, Same.seqT (sY1.trans g3) hpS, SqT.of upd_same, Nat.le_trans (show _ ≤ 400 from by rw [List.length_map]; show p.length + 1 ≤ 400; omega) (by decide), fun Y2 p2 s2 hp2 => ?_⟩
        have hp2 : SqT K Y2 p2 ((p ++ [((j : Nat) : Int) + 1]).map V.int) := by
          rw [List.map_append]
          exact hp2
        have s12 := g3.trans s2
        refine ⟨yy, .ref p2, d, p ++ [((j : Nat) : Int) + 1], kd, rfl, dp_same (sY1.trans s12) hyd, htd, path_dp hp2, by rw [List.length_append]; show p.length + 1 + n ≤ 300; omega, by omega, fun Y3 l3 es3 s3 nl3 hl3 hes3 => ?_⟩
        have lg := gone_len n htd (p ++ [((j : Nat) : Int) + 1])
        have les3 := dpAll_len hes3
        rw [List.length_map] at les3
        have tk : (partsD t).take (j + 1) = (partsD t).take j ++ [d] := by
          rw [List.take_add_one, hd]
          rfl
        have kapp : ∀ (i : Nat) (xs : List PyData) (d : PyData), kidsF i p (xs ++ [d]) = kidsF i p xs ++ [(p ++ [((i + xs.length : Nat) : Int) + 1], d)] := by
          intro i xs
          induction xs generalizing i with
          | nil => intro d; rfl
          | cons x xs ih =>
            intro d
            show (p ++ [(i : Int) + 1], x) :: kidsF (i + 1) p (xs ++ [d]) = _
            rw [ih, show i + 1 + xs.length = i + (xs.length + 1) by omega]
            rfl
        have ltk : ((partsD t).take j).length = j := by
          rw [List.length_take, ← dpAll_len hA2]
          omega
        have eg : ((p, t) :: (kidsF 0 p ((partsD t).take (j + 1))).flatMap fun x => goneF n x.1 x.2) = ((p, t) :: (kidsF 0 p ((partsD t).take j)).flatMap fun x => goneF n x.1 x.2) ++ goneF n (p ++ [((j : Nat) : Int) + 1]) d := by
          rw [tk, kapp, ltk, Nat.zero_add, List.flatMap_append]
          show _ = (p, t) :: ((kidsF 0 p ((partsD t).take j)).flatMap fun x => goneF n x.1 x.2) ++ goneF n (p ++ [((j : Nat) : Int) + 1]) d
          simp [List.flatMap]
        have les0 : es.length ≤ 900 := by
          rw [les, List.length_map, List.length_cons]
          have e2 : (kidsF 0 p (partsD t)) = kidsF 0 p ((partsD t).take j) ++ kidsF j p ((partsD t).drop j) := by
            have : ∀ (i : Nat) (xs ys : List PyData), kidsF i p (xs ++ ys) = kidsF i p xs ++ kidsF (i + xs.length) p ys := by
              intro i xs
              induction xs generalizing i with
              | nil => intro ys; rfl
              | cons x xs ih =>
                intro ys
                show (p ++ [(i : Int) + 1], x) :: kidsF (i + 1) p (xs ++ ys) = _
                rw [ih, show i + 1 + xs.length = i + (xs.length + 1) by omega]
                rfl
            have h := this 0 ((partsD t).take j) ((partsD t).drop j)
            rw [List.take_append_drop, ltk, Nat.zero_add] at h
            exact h
          have lg2 : ((p, t) :: (kidsF 0 p (partsD t)).flatMap fun x => goneF n x.1 x.2).length ≤ k := lgone
          rw [e2, List.flatMap_append, List.length_cons, List.length_append] at lg2
          omega
        refine ⟨l, l3, es, es3, rfl, rfl, (s12.trans s3) _ _ hl1, hl3, Nat.le_trans (show _ ≤ 2000 from by omega) (by decide), fun l4 n4 => ?_⟩
        have g4 := same_upd (o := .lst (es ++ es3)) n4
        have s14 := (s12.trans s3).trans g4
        refine ⟨_, _, l4, es ++ es3, rfl, sY1.trans s14, (sY1.trans (s12.trans s3)).free n4, upd_same, ?_, Same.seqT (sY1.trans s14) hS2, by omega⟩
        rw [eg, List.map_append]
        exact dpAll_appI (dpAll_same s14 hes1) (dpAll_same g4 hes3)
      · rintro σ Y ⟨y3, y4, l, es, rfl, sY, nl, hl, hes, _, _⟩
        rw [dpAll_len hA2, List.take_length] at hes
        exact ⟨_, rfl, q Y l es sY nl hl hes⟩
theorem ok_lput (D : Dd K mg "_law_put" s__law_put P__law_put) : ∀ m, C8.Cal P w K mg base (m + 1) "_law_put" (spPut5 K m) [] := by
  intro m
  induction m with
  | zero =>
    refine D.cal sc__law_put (fun vs H Q E h => ?_) (fun f cdv A outer s H vs Q E hr h => ?_)
    · obtain ⟨v, x, rv, t, u, r, s, n, k, rfl, _⟩ := h
      rfl
    · obtain ⟨v, x, rv, t, u, r, p, n, k, rfl, hv, tr, hx, hl, hgo, hrd, q⟩ := h
      have p0 : p = [] := List.eq_nil_of_length_eq_zero (by omega)
      subst p0
      have c_law_put : C8.Cal P w K mg base 0 "_law_put" (fun _ _ _ _ => False) [] := by
        obtain ⟨f, fd, F, g, b⟩ := D.ex
        exact ⟨f, fd, P__law_put, [], ⟨fun vs H Q E h => h.elim, fun B up t G ar ws xs R Z _ _ _ _ h => h.elim⟩, g, F.kp, b, .nil⟩
      refine ⟨_, (pss_cons (ps_if (pt_cmpR (op_eqD hr.units) (pv 1) (pe_tup pa_nil) (nomark _))
            (pss_one (ps_ret (pv 2)))
            pss_nil)
          (pss_cons (ps_par rfl sc__law_put.nd (i := 3) (j := 4) rfl rfl (by decide) rfl rfl (pa_cons (pe_ix ix_tup (pv 0) pe_int (fun _ _ => rfl)) (pa_cons (pe_ix ix_tup (pv 1) pe_int (fun _ _ => rfl)) pa_nil)) (by rfl))
          (pss_one (ps_ret (pe_tup (pa_cons (pe_ix ix_tup (pv 0) pe_int (fun _ _ => rfl)) (pa_cons (pe_ix ix_tup (pv 0) pe_int (fun _ _ => rfl)) (pa_cons (pe_op op_catAny (pe_op op_catAny (pe_slice sl_any (pv 3) po_none (po_some (pe_op op_sub (pv 4) pe_int))) (pe_tup (pa_cons (C8.pe_c c_law_put hr (by omega) (by rfl) (pa_cons (pe_ix ix_tup (pv 3) (pe_op op_sub (pv 4) pe_int) (fun _ _ => rfl)) (pa_cons (pe_slice sl_any (pv 1) (po_some pe_int) po_none) (pa_cons (pv 2) pa_nil)))) pa_nil))) (pe_slice sl_any (pv 3) (po_some (pv 4)) po_none)) pa_nil)))))))), ?_⟩
      obtain ⟨pq, rfl, hpS⟩ := dp_path hx
      refine ⟨_, rfl, by show 0 ≤ sizeLine; decide, fun t0 nt0 => ?_⟩
      have k1 := same_upd (o := .tup []) nt0
      refine ⟨.tuple [], .tuple [], .tup (Same.seqT k1 hpS) .nil, .tup (SqT.of upd_same) .nil, by decide +kernel, by decide +kernel, _, rfl, ?_⟩
      exact ifT rfl ⟨_, rfl, q _ _ k1 (dp_same k1 hrd)⟩
  | succ m c_law_put =>
    refine D.cal sc__law_put (fun vs H Q E h => ?_) (fun f cdv A outer s H vs Q E hr h => ?_)
    · obtain ⟨v, x, rv, t, u, r, s, n, k, rfl, _⟩ := h
      rfl
    · obtain ⟨v, x, rv, t, u, r, p, n, k, rfl, hv, tr, hx, hl, hgo, hrd, q⟩ := h
      refine ⟨_, (pss_cons (ps_if (pt_cmpR (op_eqD hr.units) (pv 1) (pe_tup pa_nil) (nomark _))
            (pss_one (ps_ret (pv 2)))
            pss_nil)
          (pss_cons (ps_par rfl sc__law_put.nd (i := 3) (j := 4) rfl rfl (by decide) rfl rfl (pa_cons (pe_ix ix_tup (pv 0) pe_int (fun _ _ => rfl)) (pa_cons (pe_ix ix_tup (pv 1) pe_int (fun _ _ => rfl)) pa_nil)) (by rfl))
          (pss_one (ps_ret (pe_tup (pa_cons (pe_ix ix_tup (pv 0) pe_int (fun _ _ => rfl)) (pa_cons (pe_ix ix_tup (pv 0) pe_int (fun _ _ => rfl)) (pa_cons (pe_op op_catAny (pe_op op_catAny (pe_slice sl_any (pv 3) po_none (po_some (pe_op op_sub (pv 4) pe_int))) (pe_tup (pa_cons (C8.pe_c c_law_put hr (by omega) (by rfl) (pa_cons (pe_ix ix_tup (pv 3) (pe_op op_sub (pv 4) pe_int) (fun _ _ => rfl)) (pa_cons (pe_slice sl_any (pv 1) (po_some pe_int) po_none) (pa_cons (pv 2) pa_nil)))) pa_nil))) (pe_slice sl_any (pv 3) (po_some (pv 4)) po_none)) pa_nil)))))))), ?_⟩
      obtain ⟨pq, rfl, hpS⟩ := dp_path hx
      refine ⟨_, rfl, by show 0 ≤ sizeLine; decide, fun t0 nt0 => ?_⟩
      have k1 := same_upd (o := .tup []) nt0
      have psh : SeqAt.shaped (pathD p) = true := by
        obtain ⟨g1, g2⟩ := ints_lay p
        unfold SeqAt.shaped
        rw [show PyData.canLay0 (pathD p) = true from g1, decide_eq_true (show PyData.depth (pathD p) ≤ 64 from by
          show PyData.depthAll (p.map PyData.int) + 1 ≤ 64
          omega)]
        rfl
      refine ⟨pathD p, .tuple [], dp_same k1 hx, .tup (SqT.of upd_same) .nil, psh, by decide +kernel, _, rfl, ?_⟩
      cases p with
      | nil => exact ifT rfl ⟨_, rfl, q _ _ k1 (dp_same k1 hrd)⟩
      | cons j s =>
        refine ifF rfl ?_
        obtain ⟨d, hst, hgo2⟩ := go_cons hgo
        obtain ⟨j1, j2, j3⟩ := step_is hst
        obtain ⟨n', k', _, htd⟩ := tr.part hst
        obtain ⟨q1, q2, z, i, us, rfl, hS1, hS2, hA2, hus, hre⟩ := tr_parts tr hv
        have lw := dpAll_len hA2
        obtain ⟨X1, e1⟩ : ∃ X1, X1 = upd H t0 (.tup []) := ⟨_, rfl⟩
        rw [← e1] at k1 ⊢
        have hS1' := Same.seqT k1 hS1
        have hS2' := Same.seqT k1 hS2
        have hpS' := Same.seqT k1 hpS
        refine ⟨_, rfl, q1, _, 2, .ref q2, rfl, rfl, hS1', atI_nat (j := 2) rfl, _, rfl, pq, _, 0, .int j, rfl, rfl, hpS', atI_nat (j := 0) rfl, _, _, rfl, ?_⟩
        refine ⟨_, rfl, q1, _, 0, .str z, rfl, rfl, hS1', atI_nat (j := 0) rfl, _, rfl, q1, _, 1, .int i, rfl, rfl, hS1', atI_nat (j := 1) rfl, ?_⟩
        refine ⟨_, rfl, _, rfl, _, _, rfl, rfl, _, rfl, q2, us, rfl, hS2', fun X2 p2 s2 hp2 => ?_⟩
        have hj : (j - 1).toNat < us.length := by omega
        obtain ⟨wv, hwv, hat⟩ := at_place hj j1
        obtain ⟨d', hd', hwd⟩ := dpAll_at hA2 hwv
        have ed : d' = d := by
          rw [j3] at hd'
          exact (Option.some.inj hd').symm
        subst ed
        have s12 := k1.trans s2
        refine ⟨_, rfl, _, rfl, _, _, rfl, rfl, q2, us, _, wv, rfl, rfl, Same.seqT s12 hS2, hat, ?_⟩
        refine ⟨_, rfl, _, rfl, pq, _, rfl, Same.seqT s12 hpS, fun X3 p3 s3 hp3 => ?_⟩
        have hp3 : SqT K X3 p3 (s.map V.int) := by
          have e := cutV_from ((j :: s).map V.int) 1
          have hp3 : SqT K X3 p3 (cutV ((j :: s).map V.int) (some ((1 : Nat) : Int)) none) := hp3
          rw [e] at hp3
          exact hp3
        have s13 := s12.trans s3
        have hp3d := path_dp hp3
        refine ⟨_, rfl, wv, .ref p3, rv, d', u, r, s, n', k', rfl, dp_same s13 hwd, htd, hp3d, by rw [List.length_cons] at hl; omega, hgo2, dp_same s13 hrd, fun X4 uv s4 huv => ?_⟩
        refine ⟨by show 1 ≤ sizeLine; decide, fun p5 n5 => ?_⟩
        have s5 := same_upd (o := .tup [uv]) n5
        have hc1 := cut_len us none (some (j - 1))
        have hc2 := cut_len us (some j) none
        refine ⟨p2, p5, _, [uv], rfl, rfl, Same.seqT ((s3.trans s4).trans s5) hp2, SqT.of upd_same, Nat.le_trans (show _ ≤ 3 from by
          show (cutV us none (some (j - 1))).length + 1 ≤ 3
          omega) (by decide), fun H6 p6 s6 hp6 => ?_⟩
        have s46 := (s4.trans s5).trans s6
        refine ⟨_, rfl, _, rfl, _, rfl, q2, us, rfl, Same.seqT (s13.trans s46) hS2, fun H7 p7 s7 hp7 => ?_⟩
        refine ⟨p6, p7, _, _, rfl, rfl, Same.seqT s7 hp6, hp7, Nat.le_trans (show _ ≤ 5 from by
          rw [List.length_append]
          show (cutV us none (some (j - 1))).length + 1 + (cutV us (some j) none).length ≤ 5
          omega) (by decide), fun H8 p8 s8 hp8 => ?_⟩
        refine ⟨by show 3 ≤ sizeLine; decide, fun p9 n9 => ?_⟩
        have s9 := same_upd (o := .tup [.str z, .int i, .ref p8]) n9
        have s49 := ((s46.trans s7).trans s8).trans s9
        refine q _ _ (s13.trans s49) ?_
        show Dp K _ (.ref p9) (reD t (setP (partsD t) j (putD ((partsD t).getD (j - 1).toNat .none) s r)))
        rw [getD_at j3, hre]
        refine .tup (SqT.of upd_same) (.cons (.str _) (.cons (.int _) (.cons (.tup (Same.seqT s9 hp8) ?_) .nil)))
        have e1 : cutV us none (some (j - 1)) = us.take (j - 1).toNat := by
          have := cutV_to us (j - 1).toNat
          rw [show (((j - 1).toNat : Nat) : Int) = j - 1 by omega] at this
          exact this
        have e2 : cutV us (some j) none = us.drop j.toNat := by
          have := cutV_from us j.toNat
          rw [show ((j.toNat : Nat) : Int) = j by omega] at this
          exact this
        rw [e1, e2]
        unfold setP
        have hA9 := dpAll_same (s13.trans s49) hA2
        exact dpAll_appI (dpAll_appI (dpAll_take _ hA9) (.cons (dp_same (((s5.trans s6).trans s7).trans (s8.trans s9)) huv) .nil)) (dpAll_drop _ hA9)
end
/-! ### one tree -/
abbrev s__law_tree_right : Stmt := top 30
abbrev N__law_tree_right : List Str := ["_law_box", "_law_tree", "_law_more", "_law_due", "_law_kept", "_law_found", "_law_path", "_law_node", "_law_made", "_law_one", "_law_part"]
abbrev P__law_tree_right : List Str := ["_law_box", "_law_tree", "_law_more"]
theorem sc__law_tree_right : FnScope N__law_tree_right P__law_tree_right (defScope s__law_tree_right) := ⟨rfl, rfl, rfl, by decide +kernel, rfl, by decide +kernel, by decide +kernel⟩
structure Ri5 (mg : Str → Option Value) : Prop where
  repr : mg "repr" = none
def spTreeRight (K : PySem.W.Frag) : Sp := fun vs H Q _ => ∃ (a : Addr) (v mv : V) (t r : PyData) (k kr m : Nat) (b : List V), vs = [.ref a, v, mv] ∧ H a = some (.lst b) ∧ BoxL m b ∧ m + 1000 < 900000 ∧ Dp K H v t ∧ Tr 31 k t ∧ k ≤ 60 ∧ Dp K H mv r ∧ Tr 31 kr r ∧ kr ≤ 60 ∧
  ∀ (H' : Hp) (b' : List V), But a H H' → H' a = some (.lst b') → BoxL (m + 60) b' → Q (.bl true) H'
theorem dpAll_mem {K : PySem.W.Frag} {H : Hp} {α : Type} {f : α → PyData} : ∀ {vs : List V} {xs : List α}, DpAll K H vs (xs.map f) → ∀ v ∈ vs, ∃ x ∈ xs, Dp K H v (f x)
  | v :: vs, x :: xs, .cons h a, u, hu => by
    rcases List.mem_cons.mp hu with e | hu
    · rw [e]
      exact ⟨x, List.mem_cons_self .., h⟩
    · obtain ⟨y, hy, h2⟩ := dpAll_mem a u hu
      exact ⟨y, List.mem_cons_of_mem _ hy, h2⟩
theorem dpAll_atm {K : PySem.W.Frag} {H : Hp} {α : Type} {f : α → PyData} {vs : List V} {xs : List α} (h : DpAll K H vs (xs.map f)) {i : Nat} {v : V} (e : vs[i]? = some v) : ∃ x, xs[i]? = some x ∧ Dp K H v (f x) := by
  obtain ⟨d, h1, h2⟩ := dpAll_at h e
  rw [List.getElem?_map] at h1
  cases c : xs[i]? with
  | none => rw [c] at h1; cases h1
  | some x => rw [c] at h1; cases h1; exact ⟨x, rfl, h2⟩
def fstP (xs : List (List Int × PyData)) : List PyData := (xs.map (·.1)).map pathD
theorem fstP_imm (xs : List (List Int × PyData)) : immAll (fstP xs) = true := immAll_map (f := pathD) (fun p => ints_imm p) _
theorem fstP_snoc {xs : List (List Int × PyData)} {j : Nat} {x : List Int × PyData} (h : xs[j]? = some x) : fstP (xs.take (j + 1)) = fstP (xs.take j) ++ [pathD x.1] := by
  unfold fstP
  rw [List.take_add_one, h, List.map_append, List.map_append]
  rfl
theorem Tr.show_ : ∀ {n k : Nat} {d : PyData}, Tr n k d → d.showable = true ∧ d.hasDict = false ∧ d.depth ≤ 2 * n ∧ d.shown.length ≤ 100 * k := by
  have fl : ∀ {i : Int}, 0 ≤ i → i < 1000000 → (PyData.shown (.int i)).length ≤ 6 := fun {i} h0 h1 => by
    obtain ⟨n, rfl⟩ : ∃ n : Nat, i = (n : Int) := ⟨i.toNat, by omega⟩
    show (Str.ofString (toString (n : Int))).length ≤ 6
    rw [PySem.ofString_length]
    show (Nat.repr n).length ≤ 6
    exact (Nat.length_repr_le_iff (by decide)).mpr (by omega)
  have fs : ∀ {i : Int}, 0 ≤ i → i < 1000000 → PyData.showable (.int i) = true := fun {i} h0 h1 => by
    show decide (i.natAbs.log2 < 1920) = true
    refine decide_eq_true ?_
    by_cases z : i.natAbs = 0
    · rw [z]
      decide
    · have : i.natAbs.log2 < 20 := (Nat.log2_lt z).mpr (by
        have : (2 : Nat) ^ 20 = 1048576 := by decide
        omega)
      omega
  have nl : ∀ {z : Str}, Nm z → (reprText z).length ≤ 62 := fun {z} h => by
    obtain ⟨w, rfl, hw⟩ := h
    have := StrLaws.reprText_len (SX.S w) (fun c hc => Nat.lt_trans (let_small (hw.1.2.2 c hc)) (by decide))
    have e := SX.S_len w
    have := hw.1.2.1
    omega
  intro n
  induction n with
  | zero =>
    intro k d h
    cases h
  | succ n ih =>
    intro k d h
    cases h with
    | mk hz h0 h1 hl ha =>
      rename_i k z i ds
      have all : ∀ {ds : List PyData} {k : Nat}, TrAll n k ds → PyData.showableAll ds = true ∧ PyData.hasDictAll ds = false ∧ PyData.depthAll ds ≤ 2 * n ∧ piled (PyData.shownAll ds) ≤ 100 * k + 2 * ds.length := by
        intro ds
        induction ds with
        | nil =>
          intro k a
          exact ⟨rfl, rfl, Nat.zero_le _, Nat.zero_le _⟩
        | cons d ds ihd =>
          intro k a
          cases a with
          | cons h a =>
            rename_i k k'
            obtain ⟨f1, f2, f3, f4⟩ := ih h
            obtain ⟨g1, g2, g3, g4⟩ := ihd a
            refine ⟨?_, ?_, ?_, ?_⟩
            · show (PyData.showable d && PyData.showableAll ds) = true
              rw [f1, g1]
              rfl
            · show (PyData.hasDict d || PyData.hasDictAll ds) = false
              rw [f2, g2]
              rfl
            · show max (PyData.depth d) (PyData.depthAll ds) ≤ 2 * n
              omega
            · show piled (PyData.shown d :: PyData.shownAll ds) ≤ 100 * (k + k') + 2 * (ds.length + 1)
              rw [piled_cons]
              omega
      obtain ⟨g1, g2, g3, g4⟩ := all ha
      refine ⟨?_, ?_, ?_, ?_⟩
      · show (PyData.showable (.str z) && (PyData.showable (.int i) && (PyData.showableAll ds && true))) = true
        rw [fs h0 h1, g1]
        rfl
      · show (false || (false || (PyData.hasDictAll ds || false))) = false
        rw [g2]
        rfl
      · show max 0 (max 0 (max (PyData.depthAll ds + 1) 0)) + 1 ≤ 2 * (n + 1)
        omega
      · show (tupleText [reprText z, PyData.shown (.int i), tupleText (PyData.shownAll ds)]).length ≤ 100 * (k + 1)
        have e := tupleText_le [reprText z, PyData.shown (.int i), tupleText (PyData.shownAll ds)]
        rw [piled_cons, piled_cons, piled_cons, piled_nil] at e
        have e1 := nl hz
        have e2 := fl h0 h1
        have e3 := tupleText_le (PyData.shownAll ds)
        omega
theorem two_show {n k k' : Nat} {t p : PyData} (h : Tr n k t) (h' : Tr n k' p) (hn : n ≤ 40) (hk : k + k' ≤ 1000) : (PyData.list [t, p]).showable = true ∧ (PyData.list [t, p]).hasDict = false ∧ (PyData.list [t, p]).depth ≤ 100 ∧ (PyData.list [t, p]).shown.length ≤ sizeLine := by
  obtain ⟨f1, f2, f3, f4⟩ := h.show_
  obtain ⟨g1, g2, g3, g4⟩ := h'.show_
  refine ⟨?_, ?_, ?_, ?_⟩
  · show (PyData.showable t && (PyData.showable p && true)) = true
    rw [f1, g1]
    rfl
  · show (PyData.hasDict t || (PyData.hasDict p || false)) = false
    rw [f2, g2]
    rfl
  · show max (PyData.depth t) (max (PyData.depth p) 0) + 1 ≤ 100
    omega
  · refine Nat.le_trans (show (listText [PyData.shown t, PyData.shown p]).length ≤ 200000 from ?_) (by decide)
    have e := listText_le [PyData.shown t, PyData.shown p]
    rw [piled_cons, piled_cons, piled_nil] at e
    omega
section
variable {P : Program} {w : World} {K : PySem.W.Frag} {mg : Str → Option Value} {base : Heap}
theorem ok_tree_right (T : Ri5 mg) (c_law_gone : C8.Cal P w K mg base 63 "_law_gone" (spGone K 62) []) (cnodes_of : C8.Cal P w K mg base 2 "nodes_of" (spNodes K) []) (c_law_same : C8.Cal P w K mg base 125 "_law_same" (spSame K 124) []) (cpart_at : CalX P w K mg base 11 "part_at" (spPart5 K) []) (cput_at : CalX P w K mg base 11 "put_at" (spPut5 K 400) [])
    (c_law_put : C8.Cal P w K mg base 63 "_law_put" (spPut5 K 62) []) (c_law_strewn : C8.Cal P w K mg base 2 "_law_strewn" (spStrewn K) []) (D : Dd K mg "_law_tree_right" s__law_tree_right P__law_tree_right) : CalG P w K mg base 126 "_law_tree_right" (spTreeRight K) := by
  obtain ⟨f, fd, F, g, bd⟩ := D.ex
  refine ⟨f, fd, _, fng_of F sc__law_tree_right (fun vs H Q E h => ?_) (fun cdv A outer s H vs Q E hg hr h => ?_), g, F.kp, bd⟩
  · obtain ⟨a, v, mv, t, r, k, kr, m, b, rfl, _⟩ := h
    rfl
  · obtain ⟨a, v, mv, t, r, k, kr, m, b, rfl, ha, hB, hm, hv, tr31, hk, hmv, tm31, hkr, q⟩ := h
    have tr : Tr 62 k t := tr31.mono (by decide)
    have tm : Tr 62 kr r := tm31.mono (by decide)
    obtain ⟨w1, w2, w3, w4⟩ := two_show tr31 tm31 (by decide) (by omega)
    have lgo := gone_len 62 tr []
    have ggo := gone_go 62 tr []
    have psm : ∀ {kk : Nat} {tt : PyData}, Tr 62 kk tt → kk ≤ 400 → Sm 124 (.list (fstP (goneF 62 [] tt))) := fun {kk tt} h hkk => by
      refine paths_sm ((goneF 62 [] tt).map (·.1)) (by rw [List.length_map]; have := gone_len 62 h []; omega) (fun p hp => ?_) 122
      obtain ⟨x, hx, rfl⟩ := List.mem_map.mp hp
      obtain ⟨s, e1, _, e3, _⟩ := gone_go 62 h [] x hx
      rw [e1]
      show s.length ≤ 500
      omega
    refine ⟨_, (pss_cons (ps_par rfl sc__law_tree_right.nd (i := 3) (j := 4) rfl rfl (by decide) rfl rfl (pa_cons (C8.pe_c c_law_gone hr (by decide) (by rfl) (pa_cons (pv 1) (pa_cons (pe_tup pa_nil) pa_nil))) (pa_cons (pe_callB (cr_reprD hg hr) (by rfl) T.repr (by decide +kernel) (pa_cons (pe_lst (pa_cons (pv 1) (pa_cons (pv 2) pa_nil))) pa_nil)) pa_nil)) (by rfl))
        (pss_cons (ps_set (i := 5) sc__law_tree_right.nd rfl (Or.inl rfl) (C8.pe_c cnodes_of hr (by decide) (by rfl) (pa_cons (pv 1) pa_nil)))
        (pss_cons (ps_if (pt_not (pt_val (C8.pe_c c_law_same hr (by decide) (by rfl) (pa_cons (pv 5) (pa_cons (pe_lc (g := gTup K 2 (gCons (gName 6) (gCons (gName 7) gNil))) (own := [("_law_path", 6), ("_law_node", 7)]) (by exact rfl) sc__law_tree_right.nd (pi_list (pv 3)) (blkOk_by (own := [("_law_path", 6), ("_law_node", 7)]) (N := N__law_tree_right) (sc := defScope s__law_tree_right) (by decide +kernel)) (fun _ _ _ _ _ => (pg_tup (n := 2) rfl (pgs_cons (pg_name (i := 6) sc__law_tree_right.nd rfl (Or.inl rfl) (Or.inr rfl)) (pgs_cons (pg_name (i := 7) sc__law_tree_right.nd rfl (Or.inl rfl) (Or.inr rfl)) pgs_nil)))) (fun _ _ _ _ _ => pts_nil) (fun _ _ _ _ _ => (pv 6))) pa_nil)))))
          (pss_one (ps_ret pe_bl))
          pss_nil)
        (pss_cons (ps_expr (pe_bm PySem.F.plainAttrs_list PySem.F.slot_list_append PySem.F.type_list_append mt_append (pv 5) (pa_cons (pe_tup pa_nil) pa_nil)))
        (C8.pss_cut (ps_expr (pe_bm0 PySem.F.plainAttrs_list PySem.F.slot_list_reverse PySem.F.type_list_reverse mt_reverse (pv 5)))
        (C8.pss_cut (ps_for PassesOwn.never rfl (pi_list (pv 3)) (pg_tup rfl (pgs_cons (pg_name (i := 6) sc__law_tree_right.nd rfl (Or.inl rfl)) (pgs_cons (pg_name (i := 7) sc__law_tree_right.nd rfl (Or.inl rfl)) pgs_nil)))
          (pss_one (ps_if (pt_not (pt_val (C8.pe_c c_law_same hr (by decide) (by rfl) (pa_cons (pe_cX cpart_at hr (by decide) (by rfl) (pa_cons (pv 1) (pa_cons (pv 6) pa_nil))) (pa_cons (pv 7) pa_nil)))))
          (pss_one (ps_ret pe_bl))
          pss_nil)))
        (C8.pss_cut (ps_for PassesOwn.never rfl (pi_list (pe_slice sl_list (C8.pe_c c_law_strewn hr (by decide) (by rfl) (pa_cons (pv 0) (pa_cons (pv 3) pa_nil))) po_none (po_some pe_int))) (pg_tup rfl (pgs_cons (pg_name (i := 6) sc__law_tree_right.nd rfl (Or.inl rfl)) (pgs_cons (pg_name (i := 7) sc__law_tree_right.nd rfl (Or.inl rfl)) pgs_nil)))
          (pss_cons (ps_set (i := 8) sc__law_tree_right.nd rfl (Or.inl rfl) (pe_cX cput_at hr (by decide) (by rfl) (pa_cons (pv 1) (pa_cons (pv 6) (pa_cons (pv 2) pa_nil)))))
        (pss_cons (ps_if (PW.pt (pw_or (pt_not (pt_val (C8.pe_c c_law_same hr (by decide) (by rfl) (pa_cons (pv 8) (pa_cons (C8.pe_c c_law_put hr (by decide) (by rfl) (pa_cons (pv 1) (pa_cons (pv 6) (pa_cons (pv 2) pa_nil)))) pa_nil))))) (pw_or1 (pt_not (pt_val (C8.pe_c c_law_same hr (by decide) (by rfl) (pa_cons (pe_cX cpart_at hr (by decide) (by rfl) (pa_cons (pv 8) (pa_cons (pv 6) pa_nil))) (pa_cons (pv 2) pa_nil))))))))
          (pss_one (ps_ret pe_bl))
          pss_nil)
        (pss_cons (ps_if (pt_not (pt_val (C8.pe_c c_law_same hr (by decide) (by rfl) (pa_cons (C8.pe_c cnodes_of hr (by decide) (by rfl) (pa_cons (pv 8) pa_nil)) (pa_cons (pe_lc (g := gTup K 2 (gCons (gName 9) (gCons (gName 10) gNil))) (own := [("_law_one", 9), ("_law_part", 10)]) (by exact rfl) sc__law_tree_right.nd (pi_list (C8.pe_c c_law_gone hr (by decide) (by rfl) (pa_cons (pv 8) (pa_cons (pe_tup pa_nil) pa_nil)))) (blkOk_by (own := [("_law_one", 9), ("_law_part", 10)]) (N := N__law_tree_right) (sc := defScope s__law_tree_right) (by decide +kernel)) (fun _ _ _ _ _ => (pg_tup (n := 2) rfl (pgs_cons (pg_name (i := 9) sc__law_tree_right.nd rfl (Or.inl rfl) (Or.inr rfl)) (pgs_cons (pg_name (i := 10) sc__law_tree_right.nd rfl (Or.inl rfl) (Or.inr rfl)) pgs_nil)))) (fun _ _ _ _ _ => pts_nil) (fun _ _ _ _ _ => (pv 9))) pa_nil)))))
          (pss_one (ps_ret pe_bl))
          pss_nil)
        (pss_one (ps_if (PW.pt (pw_or (pt_not (pt_val (C8.pe_c c_law_same hr (by decide) (by rfl) (pa_cons (pe_cX cput_at hr (by decide) (by rfl) (pa_cons (pv 8) (pa_cons (pv 6) (pa_cons (pv 7) pa_nil)))) (pa_cons (pv 1) pa_nil))))) (pw_or1 (pt_not (pt_val (C8.pe_c c_law_same hr (by decide) (by rfl) (pa_cons (pe_cX cput_at hr (by decide) (by rfl) (pa_cons (pv 1) (pa_cons (pv 6) (pa_cons (pv 7) pa_nil)))) (pa_cons (pv 1) pa_nil))))))))
          (pss_one (ps_ret pe_bl))
          pss_nil))))))
        (pss_one (ps_ret (pe_and (C8.pe_c c_law_same hr (by decide) (by rfl) (pa_cons (C8.pe_c cnodes_of hr (by decide) (by rfl) (pa_cons (pv 1) pa_nil)) (pa_cons (pe_lc (g := gTup K 2 (gCons (gName 6) (gCons (gName 7) gNil))) (own := [("_law_path", 6), ("_law_node", 7)]) (by exact rfl) sc__law_tree_right.nd (pi_list (pv 3)) (blkOk_by (own := [("_law_path", 6), ("_law_node", 7)]) (N := N__law_tree_right) (sc := defScope s__law_tree_right) (by decide +kernel)) (fun _ _ _ _ _ => (pg_tup (n := 2) rfl (pgs_cons (pg_name (i := 6) sc__law_tree_right.nd rfl (Or.inl rfl) (Or.inr rfl)) (pgs_cons (pg_name (i := 7) sc__law_tree_right.nd rfl (Or.inl rfl) (Or.inr rfl)) pgs_nil)))) (fun _ _ _ _ _ => pts_nil) (fun _ _ _ _ _ => (pv 6))) pa_nil))) (pe_one (pe_cmpR op_eq (pe_callB (cr_reprD hg hr) (by rfl) T.repr (by decide +kernel) (pa_cons (pe_lst (pa_cons (pv 1) (pa_cons (pv 2) pa_nil))) pa_nil)) (pv 4) (nomark _))))))))))))), ?_⟩
    -- all nodes, and the text
    refine ⟨_, rfl, by show 0 ≤ sizeLine; decide, fun e0 n0 => ?_⟩
    have g0 := same_upd (o := .tup []) n0
    refine ⟨v, .ref e0, t, [], k, rfl, dp_same g0 hv, tr, path_dp (p := []) (SqT.of upd_same), by decide, by omega, fun X1 ld es s1 nld hld hes => ?_⟩
    refine ⟨_, rfl, _, rfl, by show 2 ≤ sizeLine; decide, fun l2 n2 => ?_⟩
    have g2 := same_upd (o := .lst [v, mv]) n2
    have s02 := (g0.trans s1).trans g2
    have hdl : Dp K (upd X1 l2 (.lst [v, mv])) (.ref l2) (.list [t, r]) := .lst (SqL.of upd_same) (.cons (dp_same s02 hv) (.cons (dp_same s02 hmv) .nil))
    have hld2 := g2 _ _ hld
    have hes2 := dpAll_same g2 hes
    have nldH := g0.free nld
    obtain ⟨X2, e2⟩ : ∃ X2, X2 = upd X1 l2 (.lst [v, mv]) := ⟨_, rfl⟩
    rw [← e2] at s02 hdl hld2 hes2 ⊢
    refine ⟨.ref l2, .list [t, r], rfl, hdl, w1, w2, w3, w4, _, _, rfl, ?_⟩
    have hv2 := dp_same s02 hv
    have hmv2 := dp_same s02 hmv
    have les := dpAll_len hes2
    rw [List.length_map] at les
    -- paths
    refine ⟨_, rfl, v, t, 62, k, rfl, hv2, tr, by omega, by decide, fun X3 lf ws s3 nlf hlf hws => ?_⟩
    have hws3 : DpAll K X3 ws (fstP (goneF 62 [] t)) := by
      unfold fstP
      rw [← gone_walk tr]
      exact dpAll_same Nw.sub hws
    refine ⟨_, rfl, _, rfl, ld, rfl, ⟨_, SqL.of (s3 _ _ hld2)⟩, fun D nD => ?_⟩
    refine lc_list (K := K) (a := ld) (xs := es) (fun j Y => Same X3 Y ∧ ∃ us, Y D = some (.lst us) ∧ DpAll K Y us (fstP ((goneF 62 [] t).take j)) ∧ us.length = j) ⟨same_upd nD, [], upd_same, .nil, rfl⟩ (fun j Y _ h => SqL.of (h.1 _ _ (s3 _ _ hld2))) ?_ ?_
    · rintro j x Y hx ⟨sY, us, hD, hus, lu⟩
      obtain ⟨y, hy, hxd⟩ := dpAll_atm hes2 hx
      obtain ⟨q0, p0, nv, rfl, hSq, hp0, hnv⟩ := dp_pair (dp_same (s3.trans sY) hxd)
      have hj : j < es.length := (List.getElem?_eq_some_iff.mp hx).1
      refine ⟨q0, _, rfl, hSq, rfl, _, _, rfl, _, _, rfl, rfl, rfl, yesT ?_⟩
      have kk : KeepT Y (upd Y D (.lst (us ++ [p0]))) := KeepT.at_ hD lst_no
      refine ⟨_, rfl, us, hD, small1000 (by omega), Same.at_ sY nD, us ++ [p0], upd_same, ?_, by rw [List.length_append, lu]; rfl⟩
      rw [fstP_snoc hy]
      exact dpAll_appI (dpAll_imm kk hus (fstP_imm _)) (.cons (dp_imm kk hp0 (ints_imm _)) .nil)
    rintro Y ⟨sY, us, hD, hus, lu⟩
    rw [les, List.take_length] at hus
    refine ⟨.ref lf, .ref D, .list (fstP (goneF 62 [] t)), rfl, .lst (SqL.of (sY _ _ hlf)) (dpAll_same sY hws3), .lst (SqL.of hD) hus, psm tr (by omega), fun Y2 s2 => ⟨_, rfl, iteF ?_⟩⟩
    have s32 := sY.trans s2
    have hlf2 := s32 _ _ hlf
    have lws := dpAll_len hws3
    have lws2 : ws.length ≤ 60 := by
      rw [lws]
      unfold fstP
      rw [List.length_map, List.length_map]
      omega
    -- told lists are the asker's own
    refine ⟨_, rfl, .inl ⟨rfl, _, SqL.of hlf2⟩, by show 0 ≤ sizeLine; decide, fun e3 n3 => ?_⟩
    have g3 := same_upd (o := .tup []) n3
    refine ⟨lf, ws, .ref e3, rfl, rfl, g3 _ _ hlf2, small1000 (by omega), ?_⟩
    have s24 : Same X2 (upd (upd Y2 e3 (.tup [])) lf (.lst (ws ++ [.ref e3]))) := Same.at_ ((s3.trans s32).trans g3) nlf
    refine ⟨fun σ X => σ = [some (.ref a), some v, some mv, some (.ref ld), some (.str (PyData.shown (.list [t, r]))), some (.ref lf), none, none, none, none, none] ∧ Same X2 X, ?_, ?_⟩
    · refine ⟨_, rfl, .inl ⟨rfl, _, SqL.of upd_same⟩, lf, _, rfl, rfl, upd_same, rfl, ?_⟩
      exact Same.at_ s24 nlf
    rintro σ X4 ⟨rfl, s4⟩
    clear s24
    have hld4 := s4 _ _ hld2
    have hv4 := dp_same s4 hv2
    have hmv4 := dp_same s4 hmv2
    have hes4 := dpAll_same s4 hes2
    -- each part
    refine ⟨fun σ X => ∃ y6 y7, σ = [some (.ref a), some v, some mv, some (.ref ld), some (.str (PyData.shown (.list [t, r]))), some (.ref lf), y6, y7, none, none, none] ∧ Same X4 X, ?_, ?_⟩
    · refine ⟨_, rfl, ld, rfl, ⟨_, SqL.of hld4⟩, for_list (K := K) (a := ld) (xs := es) (fun j σ Y => ∃ y6 y7, σ = [some (.ref a), some v, some mv, some (.ref ld), some (.str (PyData.shown (.list [t, r]))), some (.ref lf), y6, y7, none, none, none] ∧ Same X4 Y)
        ⟨none, none, rfl, Same.refl _⟩ (fun j σ Y _ ⟨_, _, _, h⟩ => SqL.of (h _ _ hld4)) ?_ ?_⟩
      · rintro j x σ Y hx ⟨y6, y7, rfl, sY⟩
        obtain ⟨y, hy, hxd⟩ := dpAll_atm hes4 hx
        obtain ⟨q0, p0, nv, rfl, hSq, hp0, hnv⟩ := dp_pair (dp_same sY hxd)
        obtain ⟨sp, e1, hgo, hsl, k', hk', htr'⟩ := ggo y (List.mem_of_getElem? hy)
        have e1 : y.1 = sp := e1
        rw [e1] at hp0
        refine ⟨q0, _, rfl, hSq, rfl, _, _, rfl, _, _, rfl, rfl, ?_⟩
        refine ⟨_, rfl, _, rfl, v, p0, t, y.2, sp, 62, k, rfl, dp_same sY hv4, tr, hp0, by omega, hgo, fun Z uv sZ huv => ?_⟩
        refine ⟨_, rfl, uv, nv, y.2, rfl, dp_same sZ huv, dp_same sZ hnv, htr'.sm, fun Z2 s2 => ⟨_, rfl, iteF ?_⟩⟩
        exact ⟨_, _, rfl, (sY.trans sZ).trans s2⟩
      · rintro σ Y ⟨y6, y7, rfl, sY⟩
        exact ⟨_, _, rfl, sY⟩
    rintro σ X5 ⟨y6, y7, rfl, s5⟩
    have hld5 := s5 _ _ hld4
    have hv5 := dp_same s5 hv4
    have hmv5 := dp_same s5 hmv4
    have hes5 := dpAll_same s5 hes4
    have s05 := (s02.trans s4).trans s5
    have hb5 := s05 _ _ ha
    have nlda : ld ≠ a := fun z => by
      rw [z, ha] at nldH
      cases nldH
    have mem5 := dpAll_mem hes5
    -- six of them
    refine ⟨fun σ X => ∃ y6 y7 y8 b', σ = [some (.ref a), some v, some mv, some (.ref ld), some (.str (PyData.shown (.list [t, r]))), some (.ref lf), y6, y7, y8, none, none] ∧ But a X5 X ∧ X a = some (.lst b') ∧ BoxL (m + 60) b', ?_, ?_⟩
    · refine ⟨_, rfl, _, rfl, a, ld, m, b, es, rfl, hb5, hB, by omega, SqL.of hld5, nlda, by omega, fun X6 l6 ys b6 bt6 n6 hl6 hperm hb6 hB6 => ?_⟩
      refine ⟨6, rfl, l6, ys, rfl, SqL.of hl6, fun l7 n7 => ?_⟩
      have g7 := same_upd (o := .lst (cutV ys none (some 6))) n7
      have h7 : (upd X6 l7 (.lst (cutV ys none (some 6)))) l7 = some (.lst (cutV ys none (some 6))) := upd_same
      have k57 : KeepT X5 (upd X6 l7 (.lst (cutV ys none (some 6)))) := (KeepT.but hb5 bt6).trans (KeepT.of g7)
      have hv7 := dp_imm k57 hv5 tr.imm
      have hmv7 := dp_imm k57 hmv5 tm.imm
      have bt7 : But a X5 (upd X6 l7 (.lst (cutV ys none (some 6)))) := bt6.trans (But.of g7)
      have hb7 := g7 _ _ hb6
      have mem7 : ∀ e ∈ cutV ys none (some 6), ∃ x ∈ goneF 62 [] t, Dp K (upd X6 l7 (.lst (cutV ys none (some 6)))) e (pairD x) := fun e he => by
        have he : e ∈ ys := by
          have e6 := cutV_to ys 6
          have he : e ∈ cutV ys none (some ((6 : Nat) : Int)) := he
          rw [e6] at he
          exact List.mem_of_mem_take he
        obtain ⟨x, hx, hxd⟩ := mem5 e (hperm.mem_iff.mp he)
        obtain ⟨_, _, _, _, k', _, htr'⟩ := ggo x hx
        exact ⟨x, hx, dp_imm k57 hxd (pair_imm htr')⟩
      obtain ⟨X7, e7⟩ : ∃ X7, X7 = upd X6 l7 (.lst (cutV ys none (some 6))) := ⟨_, rfl⟩
      rw [← e7] at h7 hv7 hmv7 bt7 hb7 mem7 ⊢
      obtain ⟨zs, ezs⟩ : ∃ zs, zs = cutV ys none (some 6) := ⟨_, rfl⟩
      rw [← ezs] at h7 mem7
      clear k57 g7
      refine ⟨l7, rfl, ⟨_, SqL.of h7⟩, for_list (K := K) (a := l7) (xs := zs) (fun j σ Y => ∃ y6 y7 y8, σ = [some (.ref a), some v, some mv, some (.ref ld), some (.str (PyData.shown (.list [t, r]))), some (.ref lf), y6, y7, y8, none, none] ∧ Same X7 Y)
        ⟨y6, y7, none, rfl, Same.refl _⟩ (fun j σ Y _ ⟨_, _, _, _, h⟩ => SqL.of (h _ _ h7)) ?_ ?_⟩
      · rintro j x σ Y hx ⟨y6, y7, y8, rfl, sY⟩
        obtain ⟨y, hy, hxd⟩ := mem7 x (List.mem_of_getElem? hx)
        obtain ⟨q0, p0, nv, rfl, hSq, hp0, hnv⟩ := dp_pair (dp_same sY hxd)
        obtain ⟨sp, e1, hgo, hsl, k', hk', htr'⟩ := ggo y hy
        have e1 : y.1 = sp := e1
        rw [e1] at hp0
        have hvY := dp_same sY hv7
        have hmY := dp_same sY hmv7
        obtain ⟨km, hkm, trm⟩ := put_tr tr31 tm31 hgo
        have trm : Tr 62 km (putD t sp r) := trm
        refine ⟨q0, _, rfl, hSq, rfl, _, _, rfl, _, _, rfl, rfl, ?_⟩
        -- put there
        refine ⟨_, rfl, _, rfl, _, rfl, v, p0, mv, t, y.2, r, sp, 62, k, rfl, hvY, tr, hp0, by omega, hgo, hmY, fun Z1 made z1 hmade => ?_⟩
        refine ⟨_, rfl, _, rfl, _, rfl, _, rfl, v, p0, mv, t, y.2, r, sp, 62, k, rfl, dp_same z1 hvY, tr, dp_same z1 hp0, by omega, hgo, dp_same z1 hmY, fun Z2 mine z2 hmine => ?_⟩
        refine ⟨made, mine, putD t sp r, rfl, dp_same z2 hmade, hmine, trm.sm, fun Z3 z3 => ⟨_, rfl, iteF ?_⟩⟩
        have z13 := (z1.trans z2).trans z3
        have hmade3 := dp_same (z2.trans z3) hmade
        refine ⟨_, rfl, _, rfl, made, p0, putD t sp r, r, sp, 62, km, rfl, hmade3, trm, dp_same z13 hp0, by omega, put_get r tr hgo, fun Z4 uv z4 huv => ?_⟩
        refine ⟨_, rfl, uv, mv, r, rfl, dp_same z4 huv, dp_same (z13.trans z4) hmY, tm.sm, fun Z5 z5 => ⟨_, rfl, iteF ?_⟩⟩
        have z15 := (z13.trans z4).trans z5
        have hmade5 := dp_same (z4.trans z5) hmade3
        -- its nodes
        refine ⟨_, rfl, made, putD t sp r, 62, km, rfl, hmade5, trm, by omega, by decide, fun Z6 ln wn z6 nln hln hwn => ?_⟩
        have hwn6 : DpAll K Z6 wn (fstP (goneF 62 [] (putD t sp r))) := by
          unfold fstP
          rw [← gone_walk trm]
          exact dpAll_same Nw.sub hwn
        refine ⟨_, rfl, by show 0 ≤ sizeLine; decide, fun e4 n4 => ?_⟩
        have g4 := same_upd (o := .tup []) n4
        refine ⟨made, .ref e4, putD t sp r, [], km, rfl, dp_same (z6.trans g4) hmade5, trm, path_dp (p := []) (SqT.of upd_same), by decide, by omega, fun Z7 lg eg z7 nlg hlg heg => ⟨lg, rfl, ⟨_, SqL.of hlg⟩, fun D nD => ?_⟩⟩
        have leg := dpAll_len heg
        rw [List.length_map] at leg
        have lgm := gone_len 62 trm []
        refine lc_list (K := K) (a := lg) (xs := eg) (fun j Y => Same Z7 Y ∧ ∃ us, Y D = some (.lst us) ∧ DpAll K Y us (fstP ((goneF 62 [] (putD t sp r)).take j)) ∧ us.length = j) ⟨same_upd nD, [], upd_same, .nil, rfl⟩ (fun j Y _ h => SqL.of (h.1 _ _ hlg)) ?_ ?_
        · rintro j x Y hx ⟨sY, us, hD, hus, lu⟩
          obtain ⟨y, hy, hxd⟩ := dpAll_atm heg hx
          obtain ⟨q1, p1, nv1, rfl, hSq1, hp1, hnv1⟩ := dp_pair (dp_same sY hxd)
          have hj : j < eg.length := (List.getElem?_eq_some_iff.mp hx).1
          refine ⟨q1, _, rfl, hSq1, rfl, _, _, rfl, _, _, rfl, rfl, rfl, yesT ?_⟩
          have kk : KeepT Y (upd Y D (.lst (us ++ [p1]))) := KeepT.at_ hD lst_no
          refine ⟨_, rfl, us, hD, small1000 (by omega), Same.at_ sY nD, us ++ [p1], upd_same, ?_, by rw [List.length_append, lu]; rfl⟩
          rw [fstP_snoc hy]
          exact dpAll_appI (dpAll_imm kk hus (fstP_imm _)) (.cons (dp_imm kk hp1 (ints_imm _)) .nil)
        rintro Z8 ⟨z8, us, hD, hus, lu⟩
        rw [leg, List.take_length] at hus
        have z68 := (g4.trans z7).trans z8
        refine ⟨.ref ln, .ref D, .list (fstP (goneF 62 [] (putD t sp r))), rfl, .lst (SqL.of (z68 _ _ hln)) (dpAll_same z68 hwn6), .lst (SqL.of hD) hus, psm trm (by omega), fun Z9 z9 => ⟨_, rfl, iteF ?_⟩⟩
        have z19 := ((z15.trans z6).trans z68).trans z9
        have hmade9 := dp_same ((z6.trans z68).trans z9) hmade5
        -- put back
        refine ⟨_, rfl, _, rfl, _, rfl, made, p0, nv, putD t sp r, r, y.2, sp, 62, km, rfl, hmade9, trm, dp_same z19 hp0, by omega, put_get r tr hgo, dp_same z19 hnv, fun Z10 bk z10 hbk => ?_⟩
        rw [put_put r y.2 tr hgo, put_self tr hgo] at hbk
        refine ⟨_, rfl, bk, v, t, rfl, hbk, dp_same (z19.trans z10) hvY, tr.sm, fun Z11 z11 => ⟨_, rfl, iteF ?_⟩⟩
        have z111 := (z19.trans z10).trans z11
        refine ⟨_, rfl, _, rfl, _, rfl, v, p0, nv, t, y.2, y.2, sp, 62, k, rfl, dp_same z111 hvY, tr, dp_same z111 hp0, by omega, hgo, dp_same z111 hnv, fun Z12 bk2 z12 hbk2 => ?_⟩
        rw [put_self tr hgo] at hbk2
        refine ⟨_, rfl, bk2, v, t, rfl, hbk2, dp_same (z111.trans z12) hvY, tr.sm, fun Z13 z13 => ⟨_, rfl, iteF ?_⟩⟩
        exact ⟨_, _, _, rfl, sY.trans ((z111.trans z12).trans z13)⟩
      · rintro σ Y ⟨y6, y7, y8, rfl, sY⟩
        exact ⟨_, _, _, b6, rfl, bt7.trans (But.of sY), sY _ _ hb7, hB6.mono (by omega)⟩
    rintro σ X8 ⟨y6, y7, y8, b8, rfl, bt8, hb8, hB8⟩
    have k58 : KeepT X5 X8 := KeepT.but hb5 bt8
    have hv8 := dp_imm k58 hv5 tr.imm
    have hmv8 := dp_imm k58 hmv5 tm.imm
    have hld8 := bt8 _ _ nlda hld5
    have hes8 : DpAll K X8 es ((goneF 62 [] t).map pairD) := by
      refine dpAll_imm k58 hes5 ?_
      have : ∀ xs : List (List Int × PyData), (∀ x ∈ xs, imm (pairD x) = true) → immAll (xs.map pairD) = true := by
        intro xs
        induction xs with
        | nil => intro _; rfl
        | cons x xs ih =>
          intro h
          show (imm (pairD x) && immAll (xs.map pairD)) = true
          rw [h x (List.mem_cons_self ..), ih fun y hy => h y (List.mem_cons_of_mem _ hy)]
          rfl
      refine this _ fun x hx => ?_
      obtain ⟨_, _, _, _, k', _, htr'⟩ := ggo x hx
      exact pair_imm htr'
    refine ⟨_, rfl, v, t, 62, k, rfl, hv8, tr, by omega, by decide, fun X9 lk wk s9 nlk hlk hwk => ?_⟩
    have hwk9 : DpAll K X9 wk (fstP (goneF 62 [] t)) := by
      unfold fstP
      rw [← gone_walk tr]
      exact dpAll_same Nw.sub hwk
    refine ⟨_, rfl, ld, rfl, ⟨_, SqL.of (s9 _ _ hld8)⟩, fun D nD => ?_⟩
    refine lc_list (K := K) (a := ld) (xs := es) (fun j Y => Same X9 Y ∧ ∃ us, Y D = some (.lst us) ∧ DpAll K Y us (fstP ((goneF 62 [] t).take j)) ∧ us.length = j) ⟨same_upd nD, [], upd_same, .nil, rfl⟩ (fun j Y _ h => SqL.of (h.1 _ _ (s9 _ _ hld8))) ?_ ?_
    · rintro j x Y hx ⟨sY, us, hD, hus, lu⟩
      obtain ⟨y, hy, hxd⟩ := dpAll_atm hes8 hx
      obtain ⟨q0, p0, nv, rfl, hSq, hp0, hnv⟩ := dp_pair (dp_same (s9.trans sY) hxd)
      have hj : j < es.length := (List.getElem?_eq_some_iff.mp hx).1
      refine ⟨q0, _, rfl, hSq, rfl, _, _, rfl, _, _, rfl, rfl, rfl, yesT ?_⟩
      have kk : KeepT Y (upd Y D (.lst (us ++ [p0]))) := KeepT.at_ hD lst_no
      refine ⟨_, rfl, us, hD, small1000 (by omega), Same.at_ sY nD, us ++ [p0], upd_same, ?_, by rw [List.length_append, lu]; rfl⟩
      rw [fstP_snoc hy]
      exact dpAll_appI (dpAll_imm kk hus (fstP_imm _)) (.cons (dp_imm kk hp0 (ints_imm _)) .nil)
    rintro Y3 ⟨sY3, us3, hD3, hus3, lu3⟩
    rw [les, List.take_length] at hus3
    refine ⟨.ref lk, .ref D, .list (fstP (goneF 62 [] t)), rfl, .lst (SqL.of (sY3 _ _ hlk)) (dpAll_same sY3 hwk9), .lst (SqL.of hD3) hus3, psm tr (by omega), fun Y4 s4' => ⟨_, rfl, iteT ?_⟩⟩
    have s84 := (s9.trans sY3).trans s4'
    refine ⟨_, rfl, _, rfl, by show 2 ≤ sizeLine; decide, fun l9 n9 => ?_⟩
    have g9 := same_upd (o := .lst [v, mv]) n9
    refine ⟨.ref l9, .list [t, r], rfl, .lst (SqL.of upd_same) (.cons (dp_same (s84.trans g9) hv8) (.cons (dp_same (s84.trans g9) hmv8) .nil)), w1, w2, w3, w4, ?_⟩
    refine ⟨_, rfl, rfl, ?_⟩
    rw [decide_eq_true rfl]
    have sF := s84.trans g9
    exact q _ b8 ((But.of s05).trans (bt8.trans (But.of sF))) (sF _ _ hb8) hB8
end
/-! ### the law -/
abbrev s__law_right : Stmt := top 31
abbrev N__law_right : List Str := ["_law_box", "_law_names", "_law_g", "_law_some", "_law_deep", "_law_wide", "_law_turn", "_law_leaf", "_law_tree"]
abbrev P__law_right : List Str := ["_law_box"]
theorem sc__law_right : FnScope N__law_right P__law_right (defScope s__law_right) := ⟨rfl, rfl, rfl, by decide +kernel, rfl, by decide +kernel, by decide +kernel⟩
abbrev s_law : Stmt := top 32
abbrev N_law : List Str := ["_law_script", "_law_cells", "_law_k"]
abbrev P_law : List Str := ["_law_script"]
theorem sc_law : FnScope N_law P_law (defScope s_law) := ⟨rfl, rfl, rfl, by decide +kernel, rfl, by decide +kernel, by decide +kernel⟩
structure Ri5b (mg : Str → Option Value) : Prop where
  range : mg "range" = none
  all : mg "all" = none
  max : mg "max" = none
  len : mg "len" = none
def spRight5 : Sp := fun vs H Q _ => ∃ (a : Addr) (b : List V), vs = [.ref a] ∧ H a = some (.lst b) ∧ BoxL 0 b ∧ ∀ H', But a H H' → Q (.bl true) H'
def spLaw (K : PySem.W.Frag) : Sp := fun vs H Q _ => ∃ (a : Addr) (ns : List Int), vs = [.ref a] ∧ SqL K H a (ns.map V.int) ∧ ns.length ≤ 63 ∧ ∀ H', Q (.bl true) H'
theorem But.at_ {a D : Addr} {X Z : Hp} {o : HO} (h : But a X Z) (n : X D = none) : But a X (L2.upd Z D o) := fun b u nb e => by
  rw [upd_ne (ne_of_none e n)]
  exact h b u nb e
/-- what stands all along -/
structure Ctx8 (K : PySem.W.Frag) (H X : Hp) (a l gd : Addr) (ws : List (List Nat)) (rs : List SRow) (ms : List MRow) (ru : List RRow) (roof n : Nat) (b : List V) : Prop where
  bt : But a H X
  hl : X l = some (.lst (nmV ws))
  nl : l ≠ a
  gi : GramIn K X a gd rs ms ru roof
  hb : X a = some (.lst b)
  hB : BoxL n b
theorem Ctx8.go {K : PySem.W.Frag} {H X Y : Hp} {a l gd : Addr} {ws : List (List Nat)} {rs : List SRow} {ms : List MRow} {ru : List RRow} {roof n n' : Nat} {b b' : List V} (c : Ctx8 K H X a l gd ws rs ms ru roof n b) (t : But a X Y) (hb : Y a = some (.lst b')) (hB : BoxL n' b') : Ctx8 K H Y a l gd ws rs ms ru roof n' b' :=
  ⟨c.bt.trans t, t _ _ c.nl c.hl, c.nl, c.gi.go c.hb t, hb, hB⟩
theorem Ctx8.same {K : PySem.W.Frag} {H X Y : Hp} {a l gd : Addr} {ws : List (List Nat)} {rs : List SRow} {ms : List MRow} {ru : List RRow} {roof n : Nat} {b : List V} (c : Ctx8 K H X a l gd ws rs ms ru roof n b) (t : Same X Y) : Ctx8 K H Y a l gd ws rs ms ru roof n b :=
  c.go (But.of t) (t _ _ c.hb) c.hB
mutual
theorem gt_tr {ms : List MRow} (hm : ∀ m ∈ ms, NmOk m.nm ∧ m.pt.length ≤ 2) : ∀ {k : List Nat} {n j : Nat} {d : PyData}, Gt ms k n j d → Tr n j d
  | _, _, _, _, .mk (mr := mr) (i := i) hmr h0 h1 h => by
    obtain ⟨ha, hl⟩ := gtAll_tr hm h
    obtain ⟨g1, g2⟩ := hm mr hmr
    exact .mk ⟨mr.nm, rfl, g1⟩ h0 h1 (by rw [hl]; exact g2) ha
theorem gtAll_tr {ms : List MRow} (hm : ∀ m ∈ ms, NmOk m.nm ∧ m.pt.length ≤ 2) : ∀ {ks : List (List Nat)} {n j : Nat} {ds : List PyData}, GtAll ms ks n j ds → TrAll n j ds ∧ ds.length = ks.length
  | _, _, _, _, .nil n => ⟨.nil n, rfl⟩
  | _, _, _, _, .cons h a => by
    obtain ⟨h3, h4⟩ := gtAll_tr hm a
    exact ⟨.cons (gt_tr hm h) h3, by rw [List.length_cons, List.length_cons, h4]⟩
end
def TreeV (K : PySem.W.Frag) (X : Hp) (v : V) : Prop := ∃ k d, Dp K X v d ∧ Tr 31 k d ∧ k ≤ 60
theorem TreeV.keep {K : PySem.W.Frag} {X Y : Hp} {v : V} (h : TreeV K X v) (k : KeepT X Y) : TreeV K Y v := by
  obtain ⟨j, d, h1, h2, h3⟩ := h
  exact ⟨j, d, dp_imm k h1 h2.imm, h2, h3⟩
def TreesV (K : PySem.W.Frag) (X : Hp) (vs : List V) : Prop := ∀ v ∈ vs, TreeV K X v
theorem TreesV.keep {K : PySem.W.Frag} {X Y : Hp} {vs : List V} (h : TreesV K X vs) (k : KeepT X Y) : TreesV K Y vs := fun v hv => (h v hv).keep k
theorem TreesV.app {K : PySem.W.Frag} {X : Hp} {us vs : List V} (h : TreesV K X us) (k : TreesV K X vs) : TreesV K X (us ++ vs) := fun v hv => by
  rcases List.mem_append.mp hv with z | z
  · exact h v z
  · exact k v z
theorem TreesV.nil {K : PySem.W.Frag} {X : Hp} : TreesV K X [] := fun v hv => nomatch hv
theorem TreesV.cons {K : PySem.W.Frag} {X : Hp} {v : V} {vs : List V} (h : TreeV K X v) (k : TreesV K X vs) : TreesV K X (v :: vs) := fun u hu => by
  rcases List.mem_cons.mp hu with rfl | z
  · exact h
  · exact k u z
theorem node_v {K : PySem.W.Frag} {X : Hp} {t p : Addr} {w : List Nat} {i : Int} {m k : Nat} {vs : List V} {ds : List PyData} (hw : NmOk w) (h0 : 0 ≤ i) (h1 : i < 1000000) (ht : SqT K X t [.str (SX.S w), .int i, .ref p]) (hp : SqT K X p vs) (hv : DpAll K X vs ds) (hl : ds.length ≤ 2) (h : TrAll m k ds) :
    ∃ d, Dp K X (.ref t) d ∧ Tr (m + 1) (k + 1) d := ⟨_, .tup ht (.cons (.str _) (.cons (.int _) (.cons (.tup hp hv) .nil))), .mk ⟨w, rfl, hw⟩ h0 h1 hl h⟩
theorem leaf_v {K : PySem.W.Frag} {X : Hp} {t p : Addr} {w : List Nat} {i : Int} (hw : NmOk w) (h0 : 0 ≤ i) (h1 : i < 1000000) (ht : SqT K X t [.str (SX.S w), .int i, .ref p]) (hp : SqT K X p []) : ∃ d, Dp K X (.ref t) d ∧ Tr 1 1 d := node_v hw h0 h1 ht hp .nil (by decide) (.nil 0)
theorem treeV_of {K : PySem.W.Frag} {X : Hp} {v : V} {m k : Nat} (h : ∃ d, Dp K X v d ∧ Tr m k d) (hm : m ≤ 31) (hk : k ≤ 60) : TreeV K X v := by
  obtain ⟨d, h1, h2⟩ := h
  exact ⟨k, d, h1, h2.mono hm, hk⟩
theorem s_a : (("a" : String) : Str) = SX.S [97] := by decide +kernel
theorem nm_a : NmOk [97] := ⟨⟨by decide, by decide, by decide⟩, by decide⟩
theorem nmV_in {ws : List (List Nat)} {i : Nat} (h : i < ws.length) : ∃ w, ws[i]? = some w ∧ (nmV ws)[i]? = some (.str (SX.S w)) ∧ w ∈ ws := by
  refine ⟨ws[i], by simp [h], ?_, List.getElem_mem h⟩
  unfold nmV
  rw [List.getElem?_map]
  simp [h]
section
variable {P : Program} {w : World} {K : PySem.W.Frag} {mg : Str → Option Value} {base : Heap}
theorem ok_right5 (T : Ri5b mg) (c_law_take : C8.Cal P w K mg base 1 "_law_take" spTake []) (c_law_one_of : C8.Cal P w K mg base 2 "_law_one_of" (spOneOf K) []) (c_law_named : C8.Cal P w K mg base 2 "_law_named" spNamed []) (c_law_any : C8.Cal P w K mg base 5 "_law_any" (spAny K) []) (c_law_wild : C8.Cal P w K mg base 15 "_law_wild" (spWild K 12) []) (c_law_tree_of : C8.Cal P w K mg base 32 "_law_tree_of" (spTreeOf K) [])
    (cput_at : CalX P w K mg base 11 "put_at" (spPut5 K 400) []) (c_law_tree_right : CalG P w K mg base 126 "_law_tree_right" (spTreeRight K)) (D : Dd K mg "_law_right" s__law_right P__law_right) : CalG P w K mg base 127 "_law_right" spRight5 := by
  obtain ⟨f, fd, F, g, bd⟩ := D.ex
  refine ⟨f, fd, _, fng_of F sc__law_right (fun vs H Q E h => ?_) (fun cdv A outer s H vs Q E hg hr h => ?_), g, F.kp, bd⟩
  · obtain ⟨a, b, rfl, _⟩ := h
    rfl
  · obtain ⟨a, b, rfl, ha, hB, q⟩ := h
    refine ⟨_, (C8.pss_cut (ps_asg (pe_tup (pa_cons (C8.pe_c c_law_named hr (by decide) (by rfl) (pa_cons (pv 0) (pa_cons pe_int pa_nil))) (pa_cons (C8.pe_c c_law_any hr (by decide) (by rfl) (pa_cons (pv 0) pa_nil)) pa_nil))) (pg_tup rfl (pgs_cons (pg_name (i := 1) sc__law_right.nd rfl (Or.inr rfl)) (pgs_cons (pg_name (i := 2) sc__law_right.nd rfl (Or.inl rfl)) pgs_nil))))
        (C8.pss_cut (ps_set (i := 3) sc__law_right.nd rfl (Or.inl rfl) (pe_op op_cat (pe_lc (own := [("_law_turn", 6)]) (by exact rfl) sc__law_right.nd (pi_range1 rfl T.range (pa_cons pe_int pa_nil)) (blkOk_by (own := [("_law_turn", 6)]) (N := N__law_right) (sc := defScope s__law_right) (by decide +kernel)) (fun _ _ _ _ _ => (pg_name (i := 6) sc__law_right.nd rfl (Or.inl rfl))) (fun _ _ _ _ _ => pts_nil) (fun _ _ _ _ _ => (C8.pe_c c_law_wild hr (by decide) (by rfl) (pa_cons (pv 0) (pa_cons (pv 1) (pa_cons (pe_op op_add pe_int (C8.pe_c c_law_take hr (by decide) (by rfl) (pa_cons (pv 0) (pa_cons pe_int pa_nil)))) (pa_cons pe_int pa_nil))))))) (pe_lst (pa_cons (pe_tup (pa_cons pe_str (pa_cons pe_int (pa_cons (pe_tup pa_nil) pa_nil)))) pa_nil))))
        (C8.pss_cut (ps_set (i := 3) sc__law_right.nd rfl (Or.inl rfl) (pe_op op_cat (pv 3) (pe_lc (own := [("_law_tree", 8)]) (by exact rfl) sc__law_right.nd (pi_list (pe_lst (pa_cons (C8.pe_c c_law_tree_of hr (by decide) (by rfl) (pa_cons (pv 0) (pa_cons (pv 2) (pa_cons pe_int pa_nil)))) (pa_cons (C8.pe_c c_law_tree_of hr (by decide) (by rfl) (pa_cons (pv 0) (pa_cons (pv 2) (pa_cons pe_int pa_nil)))) pa_nil)))) (blkOk_by (own := [("_law_tree", 8)]) (N := N__law_right) (sc := defScope s__law_right) (by decide +kernel)) (fun _ _ _ _ _ => (pg_name (i := 8) sc__law_right.nd rfl (Or.inl rfl))) (fun _ _ _ _ _ => (pts_one (pt_cmpR op_notN (pv 8) pe_non (nomark _)))) (fun _ _ _ _ _ => (pv 8)))))
        (C8.pss_cut (ps_par rfl sc__law_right.nd (i := 4) (j := 5) rfl rfl (by decide) rfl rfl (pa_cons (pe_tup (pa_cons (pe_ix ix_list (pv 1) pe_int (fun _ _ => rfl)) (pa_cons pe_int (pa_cons (pe_tup pa_nil) pa_nil)))) (pa_cons (pe_tup (pa_cons (pe_ix ix_list (pv 1) pe_int (fun _ _ => rfl)) (pa_cons pe_int (pa_cons (pe_tup pa_nil) pa_nil)))) pa_nil)) (by rfl))
        (C8.pss_cut (ps_for PassesOwn.never rfl (pi_range1 rfl T.range (pa_cons pe_int pa_nil)) (pg_name (i := 6) sc__law_right.nd rfl (Or.inl rfl))
          (pss_one (ps_set (i := 4) sc__law_right.nd rfl (Or.inl rfl) (pe_tup (pa_cons (pe_ix ix_list (pv 1) (pe_op op_mod (pv 6) pe_int) (fun _ _ => rfl)) (pa_cons (pv 6) (pa_cons (pe_ifExp (pt_cmpR op_eq (pe_op op_mod (pv 6) pe_int) pe_int (nomark _)) (pe_tup (pa_cons (pv 4) pa_nil)) (pe_tup (pa_cons (pv 4) (pa_cons (pe_tup (pa_cons (pe_ix ix_list (pv 1) pe_int (fun _ _ => rfl)) (pa_cons pe_int (pa_cons (pe_tup pa_nil) pa_nil)))) pa_nil)))) pa_nil)))))))
        (C8.pss_cut (ps_for PassesOwn.never rfl (pi_range1 rfl T.range (pa_cons pe_int pa_nil)) (pg_name (i := 6) sc__law_right.nd rfl (Or.inl rfl))
          (pss_cons (ps_set (i := 7) sc__law_right.nd rfl (Or.inl rfl) (pe_tup (pa_cons (pe_ix ix_list (pv 1) (pe_op op_sub pe_int (pe_op op_mod (pv 6) pe_int)) (fun _ _ => rfl)) (pa_cons (pv 6) (pa_cons (pe_tup pa_nil) pa_nil)))))
        (pss_one (ps_set (i := 5) sc__law_right.nd rfl (Or.inl rfl) (pe_tup (pa_cons (pe_ix ix_list (pv 1) pe_int (fun _ _ => rfl)) (pa_cons (pv 6) (pa_cons (pe_ifExp (pt_cmpR op_eq (pe_op op_mod (pv 6) pe_int) pe_int (nomark _)) (pe_tup (pa_cons (pv 7) (pa_cons (pv 5) pa_nil))) (pe_tup (pa_cons (pv 5) (pa_cons (pv 7) pa_nil)))) pa_nil))))))))
        (C8.pss_cut (ps_for PassesOwn.never rfl (pi_list (pe_op op_cat (pv 3) (pe_lst (pa_cons (pv 4) (pa_cons (pv 5) pa_nil))))) (pg_name (i := 8) sc__law_right.nd rfl (Or.inl rfl))
          (pss_one (ps_if (pt_not (pt_val (pe_cG c_law_tree_right hg hr (by decide) (by rfl) (pa_cons (pv 0) (pa_cons (pv 8) (pa_cons (C8.pe_c c_law_one_of hr (by decide) (by rfl) (pa_cons (pv 0) (pa_cons (pv 3) pa_nil))) pa_nil))))))
          (pss_one (ps_ret pe_bl))
          pss_nil)))
        (pss_one (ps_ret (pe_cG c_law_tree_right hg hr (by decide) (by rfl) (pa_cons (pv 0) (pa_cons (pe_cX cput_at hr (by decide) (by rfl) (pa_cons (pv 5) (pa_cons (pe_tup pa_nil) (pa_cons (pe_ix ix_list (pv 3) pe_int (fun _ _ => rfl)) pa_nil)))) (pa_cons (pv 4) pa_nil))))))))))))), ?_⟩
    -- names and a grammar
    refine ⟨fun σ X => ∃ l gd ws rs ms ru roof b', σ = [some (.ref a), some (.ref l), some (.ref gd), none, none, none, none, none, none] ∧ Ctx8 K H X a l gd ws rs ms ru roof 8060 b' ∧ ws.length = 5 ∧ (∀ w ∈ ws, NmOk w) ∧ GramOk rs ms ru roof, ?_, ?_⟩
    · refine ⟨_, rfl, a, 5, 0, b, rfl, by decide, ha, hB, by decide, fun H1 l ws b1 bt1 nl hl hwl _ hws hb1 hB1 => ?_⟩
      refine ⟨_, rfl, a, _, b1, rfl, hb1, hB1, by decide, fun H2 gd rs ms ru roof b2 bt2 ngd gi go hb2 hB2 => ?_⟩
      have nla : l ≠ a := fun z => by
        rw [z, ha] at nl
        cases nl
      refine ⟨by show 2 ≤ sizeLine; decide, fun tp ntp => ⟨tp, _, rfl, SqT.of upd_same, rfl, _, _, rfl, _, _, rfl, rfl, ?_⟩⟩
      have c0 : Ctx8 K H H2 a l gd ws rs ms ru roof 8060 b2 := ⟨bt1.trans bt2, bt2 _ _ nla hl, nla, gi, hb2, hB2⟩
      exact ⟨l, gd, ws, rs, ms, ru, roof, b2, rfl, c0.same (same_upd ntp), hwl, hws, go⟩
    rintro σ X1 ⟨l, gd, ws, rs, ms, ru, roof, b1, rfl, c2, wl5, hws, go⟩
    have nla := c2.nl
    have hms : ∀ m ∈ ms, NmOk m.nm ∧ m.pt.length ≤ 2 := fun m hm => ⟨(go.ok m hm).nm, (go.ok m hm).p2⟩
    -- three wild ones and a leaf
    refine ⟨fun σ X => ∃ L us b', σ = [some (.ref a), some (.ref l), some (.ref gd), some (.ref L), none, none, none, none, none] ∧ Ctx8 K H X a l gd ws rs ms ru roof 9260 b' ∧ L ≠ a ∧ X L = some (.lst us) ∧ TreesV K X us ∧ us.length = 4, ?_, ?_⟩
    · refine ⟨3, rfl, by decide, by decide, fun D nD => ?_⟩
      have nDa : D ≠ a := fun z => by
        rw [z, c2.hb] at nD
        cases nD
      have s0 := same_upd (o := .lst []) nD
      refine lc_range (lo := 0) (n := Int.toNat 3) (fun j Y => ∃ vs b', But a X1 Y ∧ Y a = some (.lst b') ∧ BoxL (8060 + 400 * j) b' ∧ Y D = some (.lst vs) ∧ TreesV K Y vs ∧ vs.length = j)
        ⟨[], b1, But.of s0, s0 _ _ c2.hb, c2.hB, upd_same, .nil, rfl⟩ ?_ ?_
      · rintro j Y hj ⟨vs, b2, btY, hbY, hBY, hD, tvY, lv⟩
        have hj : j < 3 := hj
        refine ⟨rfl, yesT ?_⟩
        refine ⟨_, rfl, _, rfl, _, rfl, a, 30, _, b2, rfl, hbY, hBY, by omega, by decide, by decide, fun r b3 r0 r1 hB3 => ⟨_, _, rfl, rfl, ?_⟩⟩
        have bt1 : But a Y (upd Y a (.lst b3)) := But.upd (But.refl a Y)
        have hl1 := bt1 _ _ nla (btY _ _ nla c2.hl)
        have nmv : nmV ws = (ws.map SX.S).map V.str := by
          rw [List.map_map]
          rfl
        rw [nmv] at hl1
        refine ⟨a, l, 1 + r, 12, _, b3, ws.map SX.S, rfl, by decide, by omega, by omega, upd_same, hB3, by omega, SqL.of hl1, nla, by rw [List.length_map]; omega, by rw [List.length_map]; omega, fun z hz => ?_, fun Y2 v d k b4 bt2 hb4 hB4 hv tr hk => ?_⟩
        · obtain ⟨w, hw, rfl⟩ := List.mem_map.mp hz
          exact ⟨w, rfl, hws w hw⟩
        have hD2 := bt2 _ _ nDa (bt1 _ _ nDa hD)
        have kk : KeepT Y2 (upd Y2 D (.lst (vs ++ [v]))) := KeepT.at_ hD2 lst_no
        have k0 : KeepT Y (upd Y2 D (.lst (vs ++ [v]))) := ((KeepT.at_ hbY lst_no).trans (KeepT.but upd_same bt2)).trans kk
        refine ⟨vs, hD2, small1000 (by omega), vs ++ [v], b4, (btY.trans (bt1.trans bt2)).at_ nD, by rw [upd_ne nDa.symm]; exact hb4, hB4.mono (by omega), upd_same, (tvY.keep k0).app (.cons ?_ .nil), by rw [List.length_append]; show vs.length + 1 = j + 1; omega⟩
        exact TreeV.keep ⟨k, d, dp_same Nw.sub hv, tr.mono (by decide), by omega⟩ kk
      · rintro Y ⟨vs, b2, btY, hbY, hBY, hD, tvY, lv⟩
        have lv : vs.length = 3 := lv
        refine ⟨by show 0 ≤ sizeLine; decide, fun e1 n1 => ⟨by show 3 ≤ sizeLine; decide, fun t1 m1 => ⟨by show 1 ≤ sizeLine; decide, fun l1 o1 => ?_⟩⟩⟩
        have g1 := same_upd (o := .tup []) n1
        have g2 := same_upd (o := .tup [.str "a", .int 0, .ref e1]) m1
        have g3 := same_upd (o := .lst [.ref t1]) o1
        have h1 := g3 _ _ (g2 _ _ (upd_same (H := Y) (a := e1) (o := .tup [])))
        have h2 := g3 _ _ (upd_same (H := upd Y e1 (.tup [])) (a := t1) (o := .tup [.str "a", .int 0, .ref e1]))
        rw [s_a] at h2
        have g13 := (g1.trans g2).trans g3
        refine ⟨D, l1, _, _, rfl, rfl, g13 _ _ hD, upd_same, Nat.le_trans (show _ ≤ 4 from by show vs.length + 1 ≤ 4; omega) (by decide), fun L3 n3 => ?_⟩
        have g4 := same_upd (o := .lst (vs ++ [.ref t1])) n3
        have nL3a : L3 ≠ a := fun z => by
          rw [z, g13 _ _ hbY] at n3
          cases n3
        exact ⟨L3, vs ++ [.ref t1], b2, rfl, ((c2.go btY hbY hBY).same g13).same g4, nL3a, upd_same, ((tvY.keep (KeepT.of g13)).app (.cons (treeV_of (leaf_v nm_a (by decide) (by decide) (SqT.of h2) (SqT.of h1)) (by decide) (by decide)) .nil)).keep (KeepT.of g4), by rw [List.length_append]; show vs.length + 1 = 4; omega⟩
    rintro σ X3 ⟨L3, us3, b3, rfl, c3, nL3, hL3, tv3, lu3⟩
    -- two of the grammar, if there are
    refine ⟨fun σ X => ∃ L us b', σ = [some (.ref a), some (.ref l), some (.ref gd), some (.ref L), none, none, none, none, none] ∧ Ctx8 K H X a l gd ws rs ms ru roof 29260 b' ∧ L ≠ a ∧ X L = some (.lst us) ∧ TreesV K X us ∧ 4 ≤ us.length ∧ us.length ≤ 6, ?_, ?_⟩
    · refine ⟨_, rfl, _, rfl, _, rfl, a, gd, rs, ms, ru, roof, 30, _, b3, rfl, c3.gi, go, by decide, by decide, c3.hb, c3.hB, by decide, fun Y1 v1 b4 bt4 hb4 hB4 h4 => ?_⟩
      have c4 := c3.go bt4 hb4 hB4
      refine ⟨_, rfl, _, rfl, a, gd, rs, ms, ru, roof, 12, _, b4, rfl, c4.gi, go, by decide, by decide, c4.hb, c4.hB, by decide, fun Y2 v2 b5 bt5 hb5 hB5 h5 => ?_⟩
      have c5 := c4.go bt5 hb5 hB5
      have tr : ∀ {Y : Hp} {v : V} {most : Nat}, most ≤ 30 → (v = .non ∨ ∃ d k kind, Dp K Y v d ∧ Gt ms kind 28 k d ∧ k ≤ most + 15) → v = .non ∨ TreeV K Y v := fun {Y v most} hm h => by
        rcases h with h | ⟨d, k, kind, h1, h2, h3⟩
        · exact .inl h
        · exact .inr ⟨k, d, h1, (gt_tr hms h2).mono (by decide), by omega⟩
      refine ⟨by show 2 ≤ sizeLine; decide, fun l6 n6 => ⟨l6, rfl, ⟨_, SqL.of upd_same⟩, fun D nD => ?_⟩⟩
      have g6 := same_upd (o := .lst [v1, v2]) n6
      have h6 : (upd Y2 l6 (.lst [v1, v2])) l6 = some (.lst [v1, v2]) := upd_same
      have c6 := c5.same g6
      have hL6 := g6 _ _ (bt5 _ _ nL3 (bt4 _ _ nL3 hL3))
      have tv6 := (((tv3.keep (KeepT.but c3.hb bt4)).keep (KeepT.but hb4 bt5)).keep (KeepT.of g6))
      have hx6 : ∀ x ∈ [v1, v2], x = .non ∨ TreeV K (upd Y2 l6 (.lst [v1, v2])) x := fun x hx => by
        simp only [List.mem_cons, List.not_mem_nil, or_false] at hx
        rcases hx with rfl | rfl
        · exact (tr (by decide) h4).imp id fun z => (z.keep (KeepT.but hb4 bt5)).keep (KeepT.of g6)
        · exact (tr (by decide) h5).imp id fun z => z.keep (KeepT.of g6)
      obtain ⟨Z, eZ⟩ : ∃ Z, Z = upd Y2 l6 (.lst [v1, v2]) := ⟨_, rfl⟩
      rw [← eZ] at c6 hL6 tv6 hx6 nD h6 ⊢
      refine lc_list (K := K) (a := l6) (xs := [v1, v2]) (fun j U => Same Z U ∧ ∃ zs, U D = some (.lst zs) ∧ TreesV K U zs ∧ zs.length ≤ j) ⟨same_upd nD, [], upd_same, .nil, Nat.le_refl _⟩ (fun j U _ h => SqL.of (h.1 _ _ h6)) ?_ ?_
      · rintro j x U hx ⟨sU, zs, hD, tz, lz⟩
        have hj : j < 2 := (List.getElem?_eq_some_iff.mp hx).1
        refine ⟨rfl, _, rfl, rfl, _, rfl, ?_⟩
        rcases hx6 x (List.mem_of_getElem? hx) with rfl | ht
        · exact ifF (by rw [decide_eq_true rfl]; rfl) ⟨sU, zs, hD, tz, by omega⟩
        · have nx : x ≠ .non := fun z => by
            rw [z] at ht
            obtain ⟨k, d, h1, h2, _⟩ := ht
            cases h2
            cases h1
          refine ifT (by rw [decide_eq_false nx]; rfl) ⟨_, rfl, zs, hD, small1000 (by omega), Same.at_ sU nD, zs ++ [x], upd_same, ?_, by rw [List.length_append]; show zs.length + 1 ≤ j + 1; omega⟩
          have kk : KeepT U (upd U D (.lst (zs ++ [x]))) := KeepT.at_ hD lst_no
          exact (tz.keep kk).app (.cons ((ht.keep (KeepT.of sU)).keep kk) .nil)
      · rintro U ⟨sU, zs, hD, tz, lz⟩
        have lz : zs.length ≤ 2 := lz
        have c7 := c6.same sU
        refine ⟨L3, D, _, _, rfl, rfl, sU _ _ hL6, hD, Nat.le_trans (show _ ≤ 10 from by omega) (by decide), fun L7 n7 => ?_⟩
        have g7 := same_upd (o := .lst (us3 ++ zs)) n7
        have nL7a : L7 ≠ a := fun z => by
          rw [z, c7.hb] at n7
          cases n7
        exact ⟨L7, us3 ++ zs, b5, rfl, c7.same g7, nL7a, upd_same, ((tv6.keep (KeepT.of sU)).app tz).keep (KeepT.of g7), by rw [List.length_append]; omega, by rw [List.length_append]; omega⟩
    rintro σ X4 ⟨L4, us4, b4, rfl, c4, nL4, hL4, tv4, lu4, lu4'⟩
    clear tv3 hL3 c2 c3
    obtain ⟨w0, _, hw0, mw0⟩ := nmV_in (ws := ws) (i := 0) (by omega)
    obtain ⟨w1, _, hw1, mw1⟩ := nmV_in (ws := ws) (i := 1) (by omega)
    obtain ⟨w2, _, hw2, mw2⟩ := nmV_in (ws := ws) (i := 2) (by omega)
    -- a deep one and a wide one
    refine ⟨fun σ X => ∃ dv wv, σ = [some (.ref a), some (.ref l), some (.ref gd), some (.ref L4), some dv, some wv, none, none, none] ∧ Same X4 X ∧ (∃ d, Dp K X dv d ∧ Tr 1 1 d) ∧ (∃ d, Dp K X wv d ∧ Tr 1 1 d), ?_, ?_⟩
    · refine ⟨_, rfl, l, _, 0, _, rfl, rfl, SqL.of c4.hl, atI_nat (j := 0) hw0, by show 0 ≤ sizeLine; decide, fun e1 n1 => ⟨by show 3 ≤ sizeLine; decide, fun t1 m1 => ?_⟩⟩
      have g1 := same_upd (o := .tup []) n1
      have g2 := same_upd (o := .tup [.str (SX.S w0), .int 7, .ref e1]) m1
      refine ⟨_, rfl, l, _, 0, _, rfl, rfl, SqL.of ((g1.trans g2) _ _ c4.hl), atI_nat (j := 0) hw0, by show 0 ≤ sizeLine; decide, fun e2 n2 => ⟨by show 3 ≤ sizeLine; decide, fun t2 m2 => ⟨_, _, rfl, ?_⟩⟩⟩
      have g3 := same_upd (o := .tup []) n2
      have g4 := same_upd (o := .tup [.str (SX.S w0), .int 7, .ref e2]) m2
      have h1 := g4 _ _ (g3 _ _ (g2 _ _ (upd_same (H := X4) (a := e1) (o := .tup []))))
      have h2 := g4 _ _ (g3 _ _ (upd_same (H := upd X4 e1 (.tup [])) (a := t1) (o := .tup [.str (SX.S w0), .int 7, .ref e1])))
      have h3 := g4 _ _ (upd_same (H := upd (upd X4 e1 (.tup [])) t1 (.tup [.str (SX.S w0), .int 7, .ref e1])) (a := e2) (o := .tup []))
      have h4 := upd_same (H := upd (upd (upd X4 e1 (.tup [])) t1 (.tup [.str (SX.S w0), .int 7, .ref e1])) e2 (.tup [])) (a := t2) (o := .tup [.str (SX.S w0), .int 7, .ref e2])
      exact ⟨.ref t1, .ref t2, rfl, ((g1.trans g2).trans g3).trans g4, leaf_v (hws w0 mw0) (by decide) (by decide) (SqT.of h2) (SqT.of h1), leaf_v (hws w0 mw0) (by decide) (by decide) (SqT.of h4) (SqT.of h3)⟩
    rintro σ X5 ⟨dv0, wv0, rfl, s5, hd0, hwd0⟩
    refine ⟨fun σ X => ∃ dv y6, σ = [some (.ref a), some (.ref l), some (.ref gd), some (.ref L4), some dv, some wv0, y6, none, none] ∧ Same X5 X ∧ TreeV K X dv, ?_, ?_⟩
    · refine ⟨30, rfl, by decide, by decide, for_range (lo := 0) (n := Int.toNat 30) (fun i σ Y => ∃ dv y6, σ = [some (.ref a), some (.ref l), some (.ref gd), some (.ref L4), some dv, some wv0, y6, none, none] ∧ Same X5 Y ∧ ∃ k, k + (i + 2) / 3 ≤ 2 * i + 1 ∧ ∃ d, Dp K Y dv d ∧ Tr (i + 1) k d)
        ⟨dv0, none, rfl, Same.refl _, 1, by decide, hd0⟩ ?_ ?_⟩
      · rintro i σ Y hi ⟨dv, y6, rfl, sY, k, hk, d, hd, ht⟩
        have hi : i < 30 := hi
        obtain ⟨w5, _, hw5, mw5⟩ := nmV_in (ws := ws) (i := i % 5) (by omega)
        have hlY := (s5.trans sY) _ _ c4.hl
        have e5 : ((0 : Int) + (i : Nat)) % 5 = ((i % 5 : Nat) : Int) := by omega
        refine ⟨_, rfl, _, rfl, _, _, rfl, rfl, (by show (0 : Int) < 5; decide), ?_⟩
        refine ⟨l, _, ((i % 5 : Nat) : Int), _, rfl, congrArg V.int e5, SqL.of hlY, atI_nat (j := i % 5) hw5, ?_⟩
        refine ⟨_, rfl, _, rfl, _, _, rfl, rfl, (by show (0 : Int) < 3; decide), rfl, _, rfl, ?_⟩
        by_cases h3 : V.int (((0 : Int) + (i : Nat)) % 3) = V.int 0
        · refine ifT (decide_eq_true h3) ⟨_, rfl, by show 1 ≤ sizeLine; decide, fun p np => ⟨by show 3 ≤ sizeLine; decide, fun t1 n1 => ?_⟩⟩
          have h3 : ((0 : Int) + (i : Nat)) % 3 = 0 := V.int.inj h3
          have g1 := same_upd (o := .tup [dv]) np
          have g2 := same_upd (o := .tup [.str (SX.S w5), .int ((0 : Int) + (i : Nat)), .ref p]) n1
          refine ⟨.ref t1, _, rfl, (sY.trans g1).trans g2, k + 0 + 1, by omega, ?_⟩
          exact node_v (hws w5 mw5) (by omega) (by omega) (SqT.of upd_same) (SqT.of (g2 _ _ upd_same)) (.cons (dp_same (g1.trans g2) hd) .nil) (by show 1 ≤ 2; decide) (.cons ht (.nil _))
        · refine ifF (decide_eq_false h3) ⟨_, rfl, _, rfl, l, _, 1, _, rfl, rfl, SqL.of hlY, atI_nat (j := 1) hw1, by show 0 ≤ sizeLine; decide, fun e1 m1 => ⟨by show 3 ≤ sizeLine; decide, fun t2 m2 => ⟨by show 2 ≤ sizeLine; decide, fun p np => ⟨by show 3 ≤ sizeLine; decide, fun t1 n1 => ?_⟩⟩⟩⟩
          have h3 : ¬ ((0 : Int) + (i : Nat)) % 3 = 0 := fun z => h3 (congrArg V.int z)
          have g1 := same_upd (o := .tup []) m1
          have g2 := same_upd (o := .tup [.str (SX.S w1), .int 0, .ref e1]) m2
          have g3 := same_upd (o := .tup [dv, .ref t2]) np
          have g4 := same_upd (o := .tup [.str (SX.S w5), .int ((0 : Int) + (i : Nat)), .ref p]) n1
          obtain ⟨d2, hd2, ht2⟩ := leaf_v (K := K) (i := 0) (hws w1 mw1) (by decide) (by decide) (SqT.of (g4 _ _ (g3 _ _ (upd_same (H := upd Y e1 (.tup [])) (a := t2) (o := .tup [.str (SX.S w1), .int 0, .ref e1]))))) (SqT.of (g4 _ _ (g3 _ _ (g2 _ _ (upd_same (H := Y) (a := e1) (o := .tup []))))))
          refine ⟨.ref t1, _, rfl, sY.trans (((g1.trans g2).trans g3).trans g4), k + (1 + 0) + 1, by omega, ?_⟩
          exact node_v (hws w5 mw5) (by omega) (by omega) (SqT.of upd_same) (SqT.of (g4 _ _ upd_same)) (.cons (dp_same (((g1.trans g2).trans g3).trans g4) hd) (.cons hd2 .nil)) (by show 2 ≤ 2; decide) (.cons ht (.cons (ht2.mono (by omega)) (.nil _)))
      · rintro σ Y ⟨dv, y6, rfl, sY, k, hk, h⟩
        have hk : k + (30 + 2) / 3 ≤ 61 := hk
        exact ⟨dv, y6, rfl, sY, treeV_of h (by decide) (by omega)⟩
    rintro σ X6 ⟨dv, y6, rfl, s6, td⟩
    refine ⟨fun σ X => ∃ wv y6 y7, σ = [some (.ref a), some (.ref l), some (.ref gd), some (.ref L4), some dv, some wv, y6, y7, none] ∧ Same X6 X ∧ TreeV K X wv, ?_, ?_⟩
    · refine ⟨29, rfl, by decide, by decide, for_range (lo := 0) (n := Int.toNat 29) (fun i σ Y => ∃ wv y6 y7, σ = [some (.ref a), some (.ref l), some (.ref gd), some (.ref L4), some dv, some wv, y6, y7, none] ∧ Same X6 Y ∧ ∃ k, k ≤ 2 * i + 1 ∧ ∃ d, Dp K Y wv d ∧ Tr (i + 1) k d)
        ⟨wv0, y6, none, rfl, Same.refl _, 1, by decide, (by obtain ⟨d, h1, h2⟩ := hwd0; exact ⟨d, dp_same s6 h1, h2⟩)⟩ ?_ ?_⟩
      · rintro i σ Y hi ⟨wv, y6, y7, rfl, sY, k, hk, d, hd, ht⟩
        have hi : i < 29 := hi
        obtain ⟨w4, _, hw4, mw4⟩ := nmV_in (ws := ws) (i := 4 - i % 2) (by omega)
        have hlY := ((s5.trans s6).trans sY) _ _ c4.hl
        have e4 : (4 : Int) - ((0 : Int) + (i : Nat)) % 2 = ((4 - i % 2 : Nat) : Int) := by omega
        refine ⟨_, rfl, _, rfl, _, _, rfl, rfl, (by show (0 : Int) < 2; decide), _, _, rfl, rfl, ?_⟩
        refine ⟨l, _, ((4 - i % 2 : Nat) : Int), _, rfl, congrArg V.int e4, SqL.of hlY, atI_nat (j := 4 - i % 2) hw4, ?_⟩
        refine ⟨_, rfl, by show 0 ≤ sizeLine; decide, fun e1 m1 => ⟨by show 3 ≤ sizeLine; decide, fun t2 m2 => ?_⟩⟩
        have g1 := same_upd (o := .tup []) m1
        have g2 := same_upd (o := .tup [.str (SX.S w4), .int ((0 : Int) + (i : Nat)), .ref e1]) m2
        refine ⟨_, rfl, l, _, 2, _, rfl, rfl, SqL.of ((g1.trans g2) _ _ hlY), atI_nat (j := 2) hw2, _, rfl, ?_⟩
        refine ⟨_, rfl, _, _, rfl, rfl, (by show (0 : Int) < 2; decide), rfl, _, rfl, ?_⟩
        have fin : ∀ (pa pb : V) (p : Addr) (np : (upd (upd Y e1 (.tup [])) t2 (.tup [.str (SX.S w4), .int ((0 : Int) + (i : Nat)), .ref e1])) p = none) (t1 : Addr) (n1 : (upd (upd (upd Y e1 (.tup [])) t2 (.tup [.str (SX.S w4), .int ((0 : Int) + (i : Nat)), .ref e1])) p (.tup [pa, pb])) t1 = none), (pa = .ref t2 ∧ pb = wv ∨ pa = wv ∧ pb = .ref t2) →
            Same X6 (upd (upd (upd (upd Y e1 (.tup [])) t2 (.tup [.str (SX.S w4), .int ((0 : Int) + (i : Nat)), .ref e1])) p (.tup [pa, pb])) t1 (.tup [.str (SX.S w2), .int ((0 : Int) + (i : Nat)), .ref p])) ∧ ∃ k', k' ≤ 2 * (i + 1) + 1 ∧ ∃ d', Dp K (upd (upd (upd (upd Y e1 (.tup [])) t2 (.tup [.str (SX.S w4), .int ((0 : Int) + (i : Nat)), .ref e1])) p (.tup [pa, pb])) t1 (.tup [.str (SX.S w2), .int ((0 : Int) + (i : Nat)), .ref p])) (.ref t1) d' ∧ Tr (i + 1 + 1) k' d' := fun pa pb p np t1 n1 hc => by
          have g3 := same_upd (o := .tup [pa, pb]) np
          have g4 := same_upd (o := .tup [.str (SX.S w2), .int ((0 : Int) + (i : Nat)), .ref p]) n1
          obtain ⟨d2, hd2, ht2⟩ := leaf_v (K := K) (i := ((0 : Int) + (i : Nat))) (hws w4 mw4) (by omega) (by omega) (SqT.of (g4 _ _ (g3 _ _ (upd_same (H := upd Y e1 (.tup [])) (a := t2) (o := .tup [.str (SX.S w4), .int ((0 : Int) + (i : Nat)), .ref e1]))))) (SqT.of (g4 _ _ (g3 _ _ (g2 _ _ (upd_same (H := Y) (a := e1) (o := .tup []))))))
          have hd4 := dp_same (((g1.trans g2).trans g3).trans g4) hd
          refine ⟨sY.trans (((g1.trans g2).trans g3).trans g4), ?_⟩
          rcases hc with ⟨rfl, rfl⟩ | ⟨rfl, rfl⟩
          · exact ⟨1 + (k + 0) + 1, by omega, node_v (hws w2 mw2) (by omega) (by omega) (SqT.of upd_same) (SqT.of (g4 _ _ upd_same)) (.cons hd2 (.cons hd4 .nil)) (by show 2 ≤ 2; decide) (.cons (ht2.mono (by omega)) (.cons ht (.nil _)))⟩
          · exact ⟨k + (1 + 0) + 1, by omega, node_v (hws w2 mw2) (by omega) (by omega) (SqT.of upd_same) (SqT.of (g4 _ _ upd_same)) (.cons hd4 (.cons hd2 .nil)) (by show 2 ≤ 2; decide) (.cons ht (.cons (ht2.mono (by omega)) (.nil _)))⟩
        by_cases h2 : V.int (((0 : Int) + (i : Nat)) % 2) = V.int 0
        · refine ifT (decide_eq_true h2) ⟨_, rfl, _, rfl, by show 2 ≤ sizeLine; decide, fun p np => ⟨by show 3 ≤ sizeLine; decide, fun t1 n1 => ?_⟩⟩
          exact ⟨.ref t1, _, _, rfl, fin _ _ p np t1 n1 (.inl ⟨rfl, rfl⟩)⟩
        · refine ifF (decide_eq_false h2) ⟨_, rfl, _, rfl, by show 2 ≤ sizeLine; decide, fun p np => ⟨by show 3 ≤ sizeLine; decide, fun t1 n1 => ?_⟩⟩
          exact ⟨.ref t1, _, _, rfl, fin _ _ p np t1 n1 (.inr ⟨rfl, rfl⟩)⟩
      · rintro σ Y ⟨wv, y6, y7, rfl, sY, k, hk, h⟩
        have hk : k ≤ 59 := hk
        exact ⟨wv, y6, y7, rfl, sY, treeV_of h (by decide) (by omega)⟩
    rintro σ X7 ⟨wv, y6', y7, rfl, s7, tw⟩
    have s47 := (s5.trans s6).trans s7
    have hL7 := s47 _ _ hL4
    have tv7 := tv4.keep (KeepT.of s47)
    have td7 := td.keep (KeepT.of s7)
    have c7 := c4.same s47
    have hall7 := tv7.app (.cons td7 (.cons tw .nil))
    -- each of them
    refine ⟨fun σ X => ∃ y8 b', σ = [some (.ref a), some (.ref l), some (.ref gd), some (.ref L4), some dv, some wv, y6', y7, y8] ∧ But a X7 X ∧ X a = some (.lst b') ∧ BoxL 31000 b', ?_, ?_⟩
    · refine ⟨_, rfl, _, rfl, _, rfl, by show 2 ≤ sizeLine; decide, fun l8 n8 => ?_⟩
      have g8 := same_upd (o := .lst [dv, wv]) n8
      refine ⟨L4, l8, _, _, rfl, rfl, g8 _ _ hL7, upd_same, Nat.le_trans (show _ ≤ 12 from by show us4.length + 2 ≤ 12; omega) (by decide), fun l9 n9 => ?_⟩
      have g9 := same_upd (o := .lst (us4 ++ [dv, wv])) n9
      have h9 : (upd (upd X7 l8 (.lst [dv, wv])) l9 (.lst (us4 ++ [dv, wv]))) l9 = some (.lst (us4 ++ [dv, wv])) := upd_same
      have s79 := g8.trans g9
      have nl9a : l9 ≠ a := fun z => by
        rw [z, g8 _ _ c7.hb] at n9
        cases n9
      have hb9 := s79 _ _ c7.hb
      obtain ⟨X9, e9⟩ : ∃ X9, X9 = upd (upd X7 l8 (.lst [dv, wv])) l9 (.lst (us4 ++ [dv, wv])) := ⟨_, rfl⟩
      rw [← e9] at h9 s79 hb9 ⊢
      have lx : (us4 ++ [dv, wv]).length ≤ 8 := by
        rw [List.length_append]
        show us4.length + 2 ≤ 8
        omega
      refine ⟨l9, rfl, ⟨_, SqL.of h9⟩, for_list (K := K) (a := l9) (xs := us4 ++ [dv, wv]) (fun j σ Y => ∃ y8 b', σ = [some (.ref a), some (.ref l), some (.ref gd), some (.ref L4), some dv, some wv, y6', y7, y8] ∧ But a X9 Y ∧ Y a = some (.lst b') ∧ BoxL (29260 + 100 * j) b' ∧ j ≤ 8)
        ⟨none, b4, rfl, But.refl a X9, hb9, c7.hB, by decide⟩ (fun j σ Y _ ⟨_, _, _, h, _⟩ => SqL.of (h _ _ nl9a h9)) ?_ ?_⟩
      · rintro j x σ Y hx ⟨y8, b5, rfl, btY, hbY, hBY, hj8⟩
        have hj : j < 8 := by
          have := (List.getElem?_eq_some_iff.mp hx).1
          omega
        have k7Y : KeepT X7 Y := (KeepT.of s79).trans (KeepT.but hb9 btY)
        have hLY := btY _ _ nL4 (s79 _ _ hL7)
        refine ⟨_, rfl, _, rfl, _, rfl, _, rfl, a, L4, _, b5, us4, rfl, hbY, hBY, by omega, SqL.of hLY, nL4, by omega, by omega, fun i u b6 hu hB6 => ?_⟩
        have kb : KeepT Y (upd Y a (.lst b6)) := KeepT.at_ hbY lst_no
        obtain ⟨k, d, hd, htr, hk⟩ := ((hall7 x (List.mem_of_getElem? hx)).keep k7Y).keep kb
        obtain ⟨kr, r, hdr, htrr, hkr⟩ := ((tv7 u (List.mem_of_getElem? hu)).keep k7Y).keep kb
        refine ⟨a, x, u, d, r, k, kr, _, b6, rfl, upd_same, hB6, by omega, hd, htr, hk, hdr, htrr, hkr, fun Z b7 btZ hb7 hB7 => ⟨_, rfl, iteF ?_⟩⟩
        exact ⟨_, b7, rfl, btY.trans ((But.upd (But.refl a Y)).trans btZ), hb7, hB7.mono (by omega), by omega⟩
      · rintro σ Y ⟨y8, b5, rfl, btY, hbY, hBY, hj8⟩
        exact ⟨_, b5, rfl, (But.of s79).trans btY, hbY, hBY.mono (by omega)⟩
    rintro σ X8 ⟨y8, b8, rfl, bt8, hb8, hB8⟩
    have k78 : KeepT X7 X8 := KeepT.but c7.hb bt8
    have hL8 := bt8 _ _ nL4 hL7
    obtain ⟨kw, dw, hdw, htw, hkw⟩ := tw.keep k78
    obtain ⟨kd, dd, hdd, htd, hkd⟩ := td7.keep k78
    obtain ⟨u0, hu0⟩ : ∃ u, us4[0]? = some u := ⟨_, List.getElem?_eq_getElem (by omega)⟩
    obtain ⟨k0, d0, hd0', ht0, hk0⟩ := (tv7 u0 (List.mem_of_getElem? hu0)).keep k78
    refine ⟨_, rfl, _, rfl, by show 0 ≤ sizeLine; decide, fun e1 n1 => ?_⟩
    have g1 := same_upd (o := .tup []) n1
    refine ⟨_, rfl, L4, us4, 0, u0, rfl, rfl, SqL.of (g1 _ _ hL8), atI_nat (j := 0) hu0, ?_⟩
    refine ⟨wv, .ref e1, u0, dw, dw, d0, [], 31, kw, rfl, dp_same g1 hdw, htw, path_dp (p := []) (SqT.of upd_same), by decide, rfl, dp_same g1 hd0', fun Z uv sZ huv => ?_⟩
    have huv : Dp K Z uv d0 := huv
    refine ⟨_, rfl, a, uv, dv, d0, dd, k0, kd, _, b8, rfl, (g1.trans sZ) _ _ hb8, hB8, by decide, huv, ht0, hk0, dp_same (g1.trans sZ) hdd, htd, hkd, fun Z2 b9 bt9 hb9 hB9 => ?_⟩
    exact q _ (c7.bt.trans (bt8.trans ((But.of (g1.trans sZ)).trans bt9)))
theorem ok_law5 (T : Ri5b mg) (c_law_folded : C8.Cal P w K mg base 1 "_law_folded" (spFold K) []) (c_law_dip : C8.Cal P w K mg base 1 "_law_dip" (spDip K) []) (c_law_right : CalG P w K mg base 127 "_law_right" spRight5)
    {f : Addr} {fd : FuncData} (F : L2.Fun K "law" "law" s_law f fd) : FnG P w K mg base 128 f fd ["_law_script"] (spLaw K) := by
  refine fng_of F sc_law (fun vs H Q E h => ?_) (fun cdv A outer s H vs Q E hg hr h => ?_)
  · obtain ⟨a, ns, rfl, _⟩ := h
    rfl
  · obtain ⟨a, ns, rfl, hS, hlen, q⟩ := h
    refine ⟨_, (pss_cons (ps_set (i := 1) sc_law.nd rfl (Or.inr rfl) (C8.pe_c c_law_folded hr (by decide) (by rfl) (pa_cons (pv 0) (pa_cons pe_int pa_nil))))
        (pss_one (ps_ret (pe_callB (cr_all rfl) (by rfl) T.all (by decide +kernel) (pa_cons (pe_lc (own := [("_law_k", 2)]) (by exact rfl) sc_law.nd (pi_range1 rfl T.range (pa_cons (pe_callB (call_max2 rfl) (by rfl) T.max (by decide +kernel) (pa_cons pe_int (pa_cons (pe_callB call_len_seq (by rfl) T.len PySem.boot_len (pa_cons (pv 1) pa_nil)) pa_nil))) pa_nil)) (blkOk_by (own := [("_law_k", 2)]) (N := N_law) (sc := defScope s_law) (by decide +kernel)) (fun _ _ _ _ _ => (pg_name (i := 2) sc_law.nd rfl (Or.inl rfl))) (fun _ _ _ _ _ => pts_nil) (fun _ _ _ _ _ => (pe_cG c_law_right hg hr (by decide) (by rfl) (pa_cons (C8.pe_c c_law_dip hr (by decide) (by rfl) (pa_cons (pv 1) (pa_cons (pv 2) pa_nil))) pa_nil)))) pa_nil))))), ?_⟩
    refine ⟨_, rfl, a, 3, ns, rfl, hS, hlen, by decide, by decide, fun H0 cp ms s1 ncp hcp hml => ?_⟩
    refine ⟨_, rfl, cp, _, rfl, .inl (SqL.of hcp), _, _, rfl, _, rfl, ?_, ?_, fun D nD => ?_⟩
    · rw [List.length_map]
      split <;> omega
    · rw [List.length_map]
      split <;> omega
    have nDc : cp ≠ D := ne_of_none hcp nD
    rw [List.length_map]
    refine lc_range (lo := 0) (fun j H' => H' cp = some (.lst (ms.map V.int)) ∧ H' D = some (.lst ((List.replicate j true).map V.bl))) ⟨same_upd nD _ _ hcp, upd_same⟩ ?_ ?_
    · rintro j H' hj ⟨h1, h2⟩
      rw [Int.zero_add]
      have hj4 : j < 4 := by
        split at hj <;> omega
      refine ⟨rfl, yesT ?_⟩
      refine ⟨_, rfl, _, rfl, cp, j, ms, rfl, SqL.of h1, by omega, fun p b np hB => ?_⟩
      have npc : cp ≠ p := ne_of_none h1 np
      have npD : D ≠ p := ne_of_none h2 np
      refine ⟨p, b, rfl, upd_same, hB, fun H2 bt => ?_⟩
      have g1 := bt _ _ npc (same_upd np _ _ h1)
      have g2 := bt _ _ npD (same_upd np _ _ h2)
      refine ⟨_, g2, by rw [List.length_map, List.length_replicate]; exact small1000 (by omega), by rw [upd_ne nDc]; exact g1, ?_⟩
      rw [upd_same, List.replicate_succ', List.map_append]
      rfl
    · rintro H' ⟨h1, h2⟩
      refine ⟨D, _, rfl, SqL.of h2, ?_⟩
      rw [allTrue]
      exact q _
end
section
variable {w : World} {K : PySem.W.Frag} {h : Heap} {mg : Str → Option Value}
theorem fun_dd {x : Str} {st : Stmt} {ps : List Str} {f : Addr} {oc : Value} {od an : Option Addr} {osl : Array (Option Value)} {kV doc pm cdv ct : Value} (X : K.In h) (G : h.Ns mainGlobals mg) (a : PySem.W.nsIn K mainGlobals x = some (some (.ref f)))
    (l : K.lookup f = some ⟨oc, od, .func (PySem.W.fnOf x x (defArgs st) (defBody st) (defScope st) .none kV doc pm an cdv ct), osl⟩) (c : PySem.W.codeIn K cdv x = true) (k : PySem.W.keepIn K (.ref f) = true)
    (hb : ∀ (kV doc pm : Value) (an : Option Addr) (cdv ct : Value) (us : List Value), us.length = ps.length → bindArgs (PySem.W.fnOf x x (defArgs st) (defBody st) (defScope st) .none kV doc pm an cdv ct) ⟨us, []⟩ = pure (ps.zip us)) : Dd K mg x st ps :=
  ⟨f, _, fun_mk (st := st) l c k, PySem.W.mg_of X G a, (fun_mk (st := st) l c k).binds hb⟩
end
section
variable {w : World} {K : PySem.W.Frag} {h : Heap} {mg : Str → Option Value}
theorem fun_oxd {x qual : Str} {st : Stmt} {ps : List Str} {B newId : String} {C f N : Addr} {oc : Value} {od an : Option Addr} {osl : Array (Option Value)} {kV doc pm cdv ct : Value} {nm q : Str} {bs bm : List Value} {sn : List Str} {sub : List Value} {ab : Bool} {col : Option Bool} {dd : Option Addr} {k0 k1 k2 k3 k5 : Option Value}
    (X : K.In h) (G : h.Ns mainGlobals mg) (a : PySem.W.nsIn K mainGlobals x = some (some (.ref C))) (lC : K.lookup C = some (excClassObj nm q C N bs bm true sn sub ab col dd k0 k1 k2 k3 k5 newId)) (Nw : PySem.Oxb.NewOk newId bm) (FB : PySem.Oxb.InitOk B bm) (M : PySem.Oxb.MroOk (.ref C :: bm))
    (sa : PySem.W.findIn K (.ref C) "__setattr__" = some (some (.builtin "object.__setattr__"))) (exC : PySem.W.subIn K (.ref C) (.type "BaseException") = some true) (tyC : PySem.W.typeIn K (.ref C) = some (.type "type")) (kC : PySem.W.keepIn K (.ref C) = true)
    (iC : PySem.W.findIn K (.ref C) "__init__" = some (some (.ref f))) (tI : PySem.W.typeIn K (.ref f) = some (.type "function"))
    (l : K.lookup f = some ⟨oc, od, .func (PySem.W.fnOf "__init__" qual (defArgs st) (defBody st) (defScope st) .none kV doc pm an cdv ct), osl⟩) (c : PySem.W.codeIn K cdv qual = true) (k : PySem.W.keepIn K (.ref f) = true)
    (hb : ∀ (kV doc pm : Value) (an : Option Addr) (cdv ct : Value) (us : List Value), us.length = ps.length → bindArgs (PySem.W.fnOf "__init__" qual (defArgs st) (defBody st) (defScope st) .none kV doc pm an cdv ct) ⟨us, []⟩ = pure (ps.zip us)) : OxD K mg C B x qual st ps where
  ex := ⟨f, _, fun_mk (st := st) l c k, (fun_mk (st := st) l c k).binds hb, iC, tI⟩
  ox := ⟨⟨nm, q, N, bs, bm, sn, sub, ab, col, dd, k0, k1, k2, k3, k5, newId, lC, Nw, FB, M⟩, sa, exC, tyC, kC⟩
  mg := PySem.W.mg_of X G a
theorem cls_some {D : Addr} (hd : PySem.W.hasDictIn K D = true) : (PySem.W.clsIn K D).isSome = true := by
  obtain ⟨cd, e1, _⟩ := PySem.W.any_some hd
  rw [e1]
  rfl
theorem kit_cls {t : Value} {D : Addr} {b : Bool} (hd : PySem.W.hasDictIn K D = true) (ht : PySem.W.typeIn K (.ref D) = some (.type "type")) (hs : PySem.W.subIn K t (.ref D) = some b) : PySem.W.kitCls K t (.ref D) = some b := by
  show (if ((PySem.W.clsIn K D).isSome && PySem.W.typeIn K (.ref D) == some (.type "type")) = true then PySem.W.subIn K t (.ref D) else none) = some b
  rw [cls_some hd, ht, hs]
  rfl
theorem kit_other {C D : Addr} {b : Bool} (n : (Value.ref C == Value.ref D) = false) (hd : PySem.W.hasDictIn K D = true) (ht : PySem.W.typeIn K (.ref D) = some (.type "type")) (hs : PySem.W.subIn K (.ref C) (.ref D) = some b) : PySem.W.kitOne K (.ref C) (.ref D) = some b := by
  unfold PySem.W.kitOne
  rw [n]
  exact kit_cls hd ht hs
theorem kit_base {C : Addr} {T : String} {b : Bool} (m : PySem.W.kitMeta T = true) (hs : PySem.W.subIn K (.ref C) (.type T) = some b) : PySem.W.kitOne K (.ref C) (.type T) = some b := by
  have n : (Value.ref C == Value.type T) = false := rfl
  unfold PySem.W.kitOne
  rw [n]
  show (if PySem.W.kitMeta T = true then PySem.W.subIn K (.ref C) (.type T) else none) = some b
  rw [if_pos m, hs]
theorem exm_own {t : Value} {D : Addr} {b : Bool} (hB : PySem.W.subIn K (.ref D) (.type "BaseException") = some true) (hd : PySem.W.hasDictIn K D = true) (ht : PySem.W.typeIn K (.ref D) = some (.type "type")) (hs : PySem.W.subIn K t (.ref D) = some b) : PySem.W.exmOne K t (.ref D) = some b := by
  unfold PySem.W.exmOne
  rw [hB]
  exact kit_cls hd ht hs
end
theorem all_mk {l : PySem.W.OpenLaw} {w : World} {K : PySem.W.Frag} {h : Heap} {mg : Str → Option Value} {fa C0 f4 : Addr} (X : K.In h) (G : h.Ns mainGlobals mg) (hfa : mg "law" = some (.ref fa))
    (N0 : OxD K mg C0 "IndexError" "NoNode" "NoNode.__init__" s_NoNode N_NoNode) (bV0 : PySem.W.findCls K (.type "IndexError") (.type "type") "__init__" = some (.val (.builtin "IndexError.__init__"))) (e3_0 : PySem.W.findIn K (.ref C0) "path" = some none)
    (z0 : PySem.W.nsIn K mainGlobals "len" = some none) (z1 : PySem.W.nsIn K mainGlobals "abs" = some none) (z2 : PySem.W.nsIn K mainGlobals "int" = some none) (z3 : PySem.W.nsIn K mainGlobals "list" = some none) (z4 : PySem.W.nsIn K mainGlobals "enumerate" = some none) (z5 : PySem.W.nsIn K mainGlobals "range" = some none) (z6 : PySem.W.nsIn K mainGlobals "isinstance" = some none) (z7 : PySem.W.nsIn K mainGlobals "tuple" = some none) (z8 : PySem.W.nsIn K mainGlobals "dict" = some none) (z9 : PySem.W.nsIn K mainGlobals "all" = some none) (z10 : PySem.W.nsIn K mainGlobals "sum" = some none) (z11 : PySem.W.nsIn K mainGlobals "min" = some none) (z12 : PySem.W.nsIn K mainGlobals "max" = some none) (z13 : PySem.W.nsIn K mainGlobals "sorted" = some none) (z14 : PySem.W.nsIn K mainGlobals "bool" = some none) (z15 : PySem.W.nsIn K mainGlobals "str" = some none) (z16 : PySem.W.nsIn K mainGlobals "zip" = some none) (z17 : PySem.W.nsIn K mainGlobals "reversed" = some none) (z18 : PySem.W.nsIn K mainGlobals "repr" = some none) (z19 : PySem.W.nsIn K mainGlobals "IndexError" = some none)
    (D0 : Dd K mg "own_copy" s_own_copy P_own_copy) (D1 : Dd K mg "is_number" s_is_number P_is_number) (D2 : Dd K mg "walk_of" s_walk_of P_walk_of) (D3 : Dd K mg "nodes_of" s_nodes_of P_nodes_of) (D4 : Dd K mg "way_to" s_way_to P_way_to) (D5 : Dd K mg "part_at" s_part_at P_part_at) (D6 : Dd K mg "put_at" s_put_at P_put_at) (D7 : Dd K mg "_law_take" s__law_take P__law_take) (D8 : Dd K mg "_law_dip" s__law_dip P__law_dip) (D9 : Dd K mg "_law_folded" s__law_folded P__law_folded) (D10 : Dd K mg "_law_one_of" s__law_one_of P__law_one_of) (D11 : Dd K mg "_law_strewn" s__law_strewn P__law_strewn) (D12 : Dd K mg "_law_named" s__law_named P__law_named) (D13 : Dd K mg "_law_number" s__law_number P__law_number) (D14 : Dd K mg "_law_sort_rows" s__law_sort_rows P__law_sort_rows) (D15 : Dd K mg "_law_rules_for" s__law_rules_for P__law_rules_for) (D16 : Dd K mg "_law_drawn" s__law_drawn P__law_drawn) (D17 : Dd K mg "_law_any" s__law_any P__law_any) (D18 : Dd K mg "_law_sizes" s__law_sizes P__law_sizes) (D19 : Dd K mg "_law_grown" s__law_grown P__law_grown) (D20 : Dd K mg "_law_tree_of" s__law_tree_of P__law_tree_of) (D21 : Dd K mg "_law_gone" s__law_gone P__law_gone) (D22 : Dd K mg "_law_same" s__law_same P__law_same) (D23 : Dd K mg "_law_put" s__law_put P__law_put) (D24 : Dd K mg "_law_wild" s__law_wild P__law_wild) (D25 : Dd K mg "_law_tree_right" s__law_tree_right P__law_tree_right) (D26 : Dd K mg "_law_right" s__law_right P__law_right)
    {od4 an4 : Option Addr} {sl4 : Array (Option Value)} {oc4 kV4 dc4 pm4 cd4 ct4 : Value}
    (a4 : PySem.W.nsIn K mainGlobals "law" = some (some (.ref f4))) (l4 : K.lookup f4 = some ⟨oc4, od4, .func (PySem.W.fnOf "law" "law" (defArgs s_law) (defBody s_law) (defScope s_law) .none kV4 dc4 pm4 an4 cd4 ct4), sl4⟩) (c4 : PySem.W.codeIn K cd4 "law" = true) (k4 : PySem.W.keepIn K (.ref f4) = true) :
    ∃ fd : FuncData, (∀ (s : Shared) (v : Value), BindsTo s fd ⟨[v], []⟩ [("_law_script", v)]) ∧ ∀ base : Heap, K.In base → base.Ns mainGlobals mg → FnG l.prog w K mg base 128 fa fd ["_law_script"] (spLaw K) := by
  have e := hfa.symm.trans (PySem.W.mg_of X G a4)
  cases e
  have F4 := fun_mk (st := s_law) l4 c4 k4
  have m0 := PySem.W.mg_none_of X G z0
  have m1 := PySem.W.mg_none_of X G z1
  have m2 := PySem.W.mg_none_of X G z2
  have m3 := PySem.W.mg_none_of X G z3
  have m4 := PySem.W.mg_none_of X G z4
  have m5 := PySem.W.mg_none_of X G z5
  have m6 := PySem.W.mg_none_of X G z6
  have m7 := PySem.W.mg_none_of X G z7
  have m8 := PySem.W.mg_none_of X G z8
  have m9 := PySem.W.mg_none_of X G z9
  have m10 := PySem.W.mg_none_of X G z10
  have m11 := PySem.W.mg_none_of X G z11
  have m12 := PySem.W.mg_none_of X G z12
  have m13 := PySem.W.mg_none_of X G z13
  have m14 := PySem.W.mg_none_of X G z14
  have m15 := PySem.W.mg_none_of X G z15
  have m16 := PySem.W.mg_none_of X G z16
  have m17 := PySem.W.mg_none_of X G z17
  have m18 := PySem.W.mg_none_of X G z18
  have m19 := PySem.W.mg_none_of X G z19
  have TB : Bt mg := ⟨m0, m1, m2, m3, m4, m5⟩
  have TO : Ot mg := ⟨m6, m3, m7⟩
  have TSo : So mg := ⟨m5, m7⟩
  have TRu : Ru mg := ⟨m5, m3, m0, m2, m7⟩
  have TDw : Dw mg := ⟨m5, m0, m8, m7, m4⟩
  have TZs : Zs mg := ⟨m9, m10, m11⟩
  have TGw : Gw mg := ⟨m9, m10, m12, m0, m4, m7⟩
  have TTo : To mg := ⟨m13⟩
  have TW : Wl mg := ⟨m5, m11, m7⟩
  have TS : Sa mg := ⟨m6, m3, m7, m14, m15, m2, m0, m16, m9, m5⟩
  have TN : Nu mg := ⟨m6, m2, m14, m7, m0⟩
  have TP : Pu mg := ⟨m17, m5, m0⟩
  have TK : Wk mg := ⟨m17, m5, m0⟩
  have TG5 : Go5 mg := ⟨m4⟩
  have TR : Ri5 mg := ⟨m18⟩
  have TRb : Ri5b mg := ⟨m5, m9, m12, m0⟩
  have bI0 : BInit K "IndexError" := ⟨by decide +kernel, rfl, by decide +kernel, bV0, rfl, by decide +kernel, by decide +kernel⟩
  refine ⟨PySem.W.fnOf "law" "law" (defArgs s_law) (defBody s_law) (defScope s_law) .none kV4 dc4 pm4 an4 cd4 ct4, fun s v => .of_eq rfl, fun base _ _ => ?_⟩
  have ct := ok_take (P := l.prog) (w := w) (base := base) D7
  have co := ok_one_of TB ct D10
  have cu := ok_number ct D13
  have cn := ok_named TB ct D12
  have cs := ok_strewn TB ct D11
  have cr := ok_sort_rows TSo ct cn cs D14
  have cf := ok_rules_for TRu ct cn cs co cu D15
  have cd := ok_drawn TDw ct cn (ok_strewnT TB ct D11) co cr cf D16
  have ca := ok_any ct cd D17
  have cz := ok_sizes (P := l.prog) (w := w) (base := base) TZs D18
  have cg := ok_growns TGw ct co cu D19 28
  have ce := ok_tree_of TTo ct co cz cg D20
  have cW := ok_wild TW ct co cu D24 12
  
  have cw := ok_ownD (P := l.prog) (w := w) (base := base) TO D0 6
  have cy := ok_way_to TN (ok_is_number (P := l.prog) (w := w) (base := base) TN D1) N0 (fun f fd F => ok_NoNode cw F N0.ox bI0 m19 e3_0) D4
  have cp := ok_part5 cy D5
  have cq := ok_put5 TP cy D6
  have cno := ok_nodes_of (ok_walk_of (P := l.prog) (w := w) (base := base) TK D2) D3
  have cgo := ok_gone (P := l.prog) (w := w) (K := K) (base := base) TG5 D21 62
  have clp := ok_lput (P := l.prog) (w := w) (K := K) (base := base) D23 62
  have ctr := ok_tree_right TR cgo cno (ok_same TS D22 124) cp cq clp cs D25
  exact ok_law5 TRb (ok_folded TB D9) (ok_dip TB D8) (ok_right5 TRb ct co cn ca cW ce cq ctr D26) F4
end Thr
open PySem PySem.W PyProof.Rows
set_option maxRecDepth 100000 in
set_option maxHeartbeats 0 in
theorem PySem.Challenge.cw_threereckons_k15_nodes_and_parts_holds : PySem.Challenge.rw_threereckons_k15_nodes_and_parts.Holds := by
  w_on; o_law; k_head; (case hw => w_witness2)
  k_fill
  refine Thr.walk_ofG (l := PySem.Challenge.rw_threereckons_k15_nodes_and_parts) (n := 63) (k := 128) (x := "_law_script") (sp := fun w => Thr.spLaw _) rfl (by decide) rfl ⟨rfl, by decide, by decide⟩ (fun w h Y => PySem.W.kIn_of Y) ?F (fun _ _ a ns hl _ hS => ⟨a, ns, rfl, hS, hl, fun _ => rfl⟩)
  case F =>
    intro w mg fa h KX G hmg
    refine' Thr.all_mk KX G hmg
      (Thr.fun_oxd (newId := "IndexError.__new__") (bm := [.type "IndexError", .type "LookupError", .type "Exception", .type "BaseException", .type "object"]) KX G ?o0_1 ?o0_2 Thr.new_IE Thr.init_IE ?oM0 ?o0_3 ?o0_4 ?o0_5 ?o0_6 ?o0_7 ?o0_8 ?o0_9 ?o0_10 ?o0_11 ?o0_12) ?bV0 ?e3_0
      ?z0 ?z1 ?z2 ?z3 ?z4 ?z5 ?z6 ?z7 ?z8 ?z9 ?z10 ?z11 ?z12 ?z13 ?z14 ?z15 ?z16 ?z17 ?z18 ?z19
      (Thr.fun_dd KX G ?x0 ?w0 ?u0 ?t0 ?s0)
      (Thr.fun_dd KX G ?x1 ?w1 ?u1 ?t1 ?s1)
      (Thr.fun_dd KX G ?x2 ?w2 ?u2 ?t2 ?s2)
      (Thr.fun_dd KX G ?x3 ?w3 ?u3 ?t3 ?s3)
      (Thr.fun_dd KX G ?x4 ?w4 ?u4 ?t4 ?s4)
      (Thr.fun_dd KX G ?x5 ?w5 ?u5 ?t5 ?s5)
      (Thr.fun_dd KX G ?x6 ?w6 ?u6 ?t6 ?s6)
      (Thr.fun_dd KX G ?x7 ?w7 ?u7 ?t7 ?s7)
      (Thr.fun_dd KX G ?x8 ?w8 ?u8 ?t8 ?s8)
      (Thr.fun_dd KX G ?x9 ?w9 ?u9 ?t9 ?s9)
      (Thr.fun_dd KX G ?x10 ?w10 ?u10 ?t10 ?s10)
      (Thr.fun_dd KX G ?x11 ?w11 ?u11 ?t11 ?s11)
      (Thr.fun_dd KX G ?x12 ?w12 ?u12 ?t12 ?s12)
      (Thr.fun_dd KX G ?x13 ?w13 ?u13 ?t13 ?s13)
      (Thr.fun_dd KX G ?x14 ?w14 ?u14 ?t14 ?s14)
      (Thr.fun_dd KX G ?x15 ?w15 ?u15 ?t15 ?s15)
      (Thr.fun_dd KX G ?x16 ?w16 ?u16 ?t16 ?s16)
      (Thr.fun_dd KX G ?x17 ?w17 ?u17 ?t17 ?s17)
      (Thr.fun_dd KX G ?x18 ?w18 ?u18 ?t18 ?s18)
      (Thr.fun_dd KX G ?x19 ?w19 ?u19 ?t19 ?s19)
      (Thr.fun_dd KX G ?x20 ?w20 ?u20 ?t20 ?s20)
      (Thr.fun_dd KX G ?x21 ?w21 ?u21 ?t21 ?s21)
      (Thr.fun_dd KX G ?x22 ?w22 ?u22 ?t22 ?s22)
      (Thr.fun_dd KX G ?x23 ?w23 ?u23 ?t23 ?s23)
      (Thr.fun_dd KX G ?x24 ?w24 ?u24 ?t24 ?s24)
      (Thr.fun_dd KX G ?x25 ?w25 ?u25 ?t25 ?s25)
      (Thr.fun_dd KX G ?x26 ?w26 ?u26 ?t26 ?s26)
      ?a4 ?l4 ?c4 ?k4
    (case o0_1 => k_is)
    (case o0_2 => k_is)
    (case o0_3 => k_is)
    (case o0_4 => k_is)
    (case o0_5 => k_is)
    (case o0_6 => k_is)
    (case o0_7 => k_is)
    (case o0_8 => k_is)
    (case o0_9 => k_is)
    (case o0_10 => k_is)
    (case o0_11 => k_is)
    (case oM0 => exact Thr.mro_IE _)
    (case o0_12 => exact fun _ _ _ _ _ _ us hl => match us, hl with | [_, _], _ => rfl)
    (case bV0 => k_is)
    (case e3_0 => k_is)
    (case z0 => k_is)
    (case z1 => k_is)
    (case z2 => k_is)
    (case z3 => k_is)
    (case z4 => k_is)
    (case z5 => k_is)
    (case z6 => k_is)
    (case z7 => k_is)
    (case z8 => k_is)
    (case z9 => k_is)
    (case z10 => k_is)
    (case z11 => k_is)
    (case z12 => k_is)
    (case z13 => k_is)
    (case z14 => k_is)
    (case z15 => k_is)
    (case z16 => k_is)
    (case z17 => k_is)
    (case z18 => k_is)
    (case z19 => k_is)
    (case x0 => k_is)
    (case w0 => k_is)
    (case u0 => k_is)
    (case t0 => k_is)
    (case s0 => exact fun _ _ _ _ _ _ us hl => match us, hl with | [_], _ => rfl)
    (case x1 => k_is)
    (case w1 => k_is)
    (case u1 => k_is)
    (case t1 => k_is)
    (case s1 => exact fun _ _ _ _ _ _ us hl => match us, hl with | [_], _ => rfl)
    (case x2 => k_is)
    (case w2 => k_is)
    (case u2 => k_is)
    (case t2 => k_is)
    (case s2 => exact fun _ _ _ _ _ _ us hl => match us, hl with | [_], _ => rfl)
    (case x3 => k_is)
    (case w3 => k_is)
    (case u3 => k_is)
    (case t3 => k_is)
    (case s3 => exact fun _ _ _ _ _ _ us hl => match us, hl with | [_], _ => rfl)
    (case x4 => k_is)
    (case w4 => k_is)
    (case u4 => k_is)
    (case t4 => k_is)
    (case s4 => exact fun _ _ _ _ _ _ us hl => match us, hl with | [_, _], _ => rfl)
    (case x5 => k_is)
    (case w5 => k_is)
    (case u5 => k_is)
    (case t5 => k_is)
    (case s5 => exact fun _ _ _ _ _ _ us hl => match us, hl with | [_, _], _ => rfl)
    (case x6 => k_is)
    (case w6 => k_is)
    (case u6 => k_is)
    (case t6 => k_is)
    (case s6 => exact fun _ _ _ _ _ _ us hl => match us, hl with | [_, _, _], _ => rfl)
    (case x7 => k_is)
    (case w7 => k_is)
    (case u7 => k_is)
    (case t7 => k_is)
    (case s7 => exact fun _ _ _ _ _ _ us hl => match us, hl with | [_, _], _ => rfl)
    (case x8 => k_is)
    (case w8 => k_is)
    (case u8 => k_is)
    (case t8 => k_is)
    (case s8 => exact fun _ _ _ _ _ _ us hl => match us, hl with | [_, _], _ => rfl)
    (case x9 => k_is)
    (case w9 => k_is)
    (case u9 => k_is)
    (case t9 => k_is)
    (case s9 => exact fun _ _ _ _ _ _ us hl => match us, hl with | [_, _], _ => rfl)
    (case x10 => k_is)
    (case w10 => k_is)
    (case u10 => k_is)
    (case t10 => k_is)
    (case s10 => exact fun _ _ _ _ _ _ us hl => match us, hl with | [_, _], _ => rfl)
    (case x11 => k_is)
    (case w11 => k_is)
    (case u11 => k_is)
    (case t11 => k_is)
    (case s11 => exact fun _ _ _ _ _ _ us hl => match us, hl with | [_, _], _ => rfl)
    (case x12 => k_is)
    (case w12 => k_is)
    (case u12 => k_is)
    (case t12 => k_is)
    (case s12 => exact fun _ _ _ _ _ _ us hl => match us, hl with | [_, _], _ => rfl)
    (case x13 => k_is)
    (case w13 => k_is)
    (case u13 => k_is)
    (case t13 => k_is)
    (case s13 => exact fun _ _ _ _ _ _ us hl => match us, hl with | [_], _ => rfl)
    (case x14 => k_is)
    (case w14 => k_is)
    (case u14 => k_is)
    (case t14 => k_is)
    (case s14 => exact fun _ _ _ _ _ _ us hl => match us, hl with | [_, _], _ => rfl)
    (case x15 => k_is)
    (case w15 => k_is)
    (case u15 => k_is)
    (case t15 => k_is)
    (case s15 => exact fun _ _ _ _ _ _ us hl => match us, hl with | [_, _, _, _, _], _ => rfl)
    (case x16 => k_is)
    (case w16 => k_is)
    (case u16 => k_is)
    (case t16 => k_is)
    (case s16 => exact fun _ _ _ _ _ _ us hl => match us, hl with | [_, _, _], _ => rfl)
    (case x17 => k_is)
    (case w17 => k_is)
    (case u17 => k_is)
    (case t17 => k_is)
    (case s17 => exact fun _ _ _ _ _ _ us hl => match us, hl with | [_], _ => rfl)
    (case x18 => k_is)
    (case w18 => k_is)
    (case u18 => k_is)
    (case t18 => k_is)
    (case s18 => exact fun _ _ _ _ _ _ us hl => match us, hl with | [_], _ => rfl)
    (case x19 => k_is)
    (case w19 => k_is)
    (case u19 => k_is)
    (case t19 => k_is)
    (case s19 => exact fun _ _ _ _ _ _ us hl => match us, hl with | [_, _, _, _, _, _], _ => rfl)
    (case x20 => k_is)
    (case w20 => k_is)
    (case u20 => k_is)
    (case t20 => k_is)
    (case s20 => exact fun _ _ _ _ _ _ us hl => match us, hl with | [_, _, _], _ => rfl)
    (case x21 => k_is)
    (case w21 => k_is)
    (case u21 => k_is)
    (case t21 => k_is)
    (case s21 => exact fun _ _ _ _ _ _ us hl => match us, hl with | [_, _], _ => rfl)
    (case x22 => k_is)
    (case w22 => k_is)
    (case u22 => k_is)
    (case t22 => k_is)
    (case s22 => exact fun _ _ _ _ _ _ us hl => match us, hl with | [_, _], _ => rfl)
    (case x23 => k_is)
    (case w23 => k_is)
    (case u23 => k_is)
    (case t23 => k_is)
    (case s23 => exact fun _ _ _ _ _ _ us hl => match us, hl with | [_, _, _], _ => rfl)
    (case x24 => k_is)
    (case w24 => k_is)
    (case u24 => k_is)
    (case t24 => k_is)
    (case s24 => exact fun _ _ _ _ _ _ us hl => match us, hl with | [_, _, _, _], _ => rfl)
    (case x25 => k_is)
    (case w25 => k_is)
    (case u25 => k_is)
    (case t25 => k_is)
    (case s25 => exact fun _ _ _ _ _ _ us hl => match us, hl with | [_, _, _], _ => rfl)
    (case x26 => k_is)
    (case w26 => k_is)
    (case u26 => k_is)
    (case t26 => k_is)
    (case s26 => exact fun _ _ _ _ _ _ us hl => match us, hl with | [_], _ => rfl)
    (case a4 => k_is)
    (case l4 => k_is)
    (case c4 => k_is)
    (case k4 => k_is)
