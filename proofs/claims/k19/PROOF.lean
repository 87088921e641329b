import PyProof.Rows.All
import Wide.All
import OpenK.AllK
import Wide.FinOn
import HandS.ForMost
import HandS.Walk
import HandS.Codes
import HandS.IsInst
import HandS.Defaults
import HandS.Star
import HandS.Flow
import HandS.Style
import HandS.CallLocal
import HandS.More
import HandS.ForExc
import HandS.ExcInit
import HandS.ExcIs
import HandS.ExcField
import KE.KExcIs
import KE.KExcInit
import HandS.Zip
import HandS.DeepEq
import PyProof.Rows.NestShow
import HandS.TupAny
import HandS.RevRange
import HandS.Text
import PyProof.StrLawsRepr
import HandS.StrMore
import KE.IntTextText
import PySem.Challenge.RW_threereckons_k19_texts_of_trees_spoilt
set_option Elab.async false
set_option linter.all false
set_option maxRecDepth 100000
set_option maxHeartbeats 4000000
namespace Thr
open PySem PySem.Spec PyProof.Rows L2
/-! ### heaps -/
theorem same_upd {H : Hp} {p : Addr} {o : HO} (h : H p = none) : Same H (upd H p o) := fun b x e => by
  rw [upd_ne (ne_of_none e h)]
  exact e
/-- all but what stands at a -/
def But (a : Addr) (H H' : Hp) : Prop := ∀ b o, b ≠ a → H b = some o → H' b = some o
theorem But.refl (a : Addr) (H : Hp) : But a H H := fun _ _ _ h => h
theorem But.trans {a : Addr} {H H1 H2 : Hp} (x : But a H H1) (y : But a H1 H2) : But a H H2 := fun b o n h => y b o n (x b o n h)
theorem But.of {a : Addr} {H H' : Hp} (s : Same H H') : But a H H' := fun b o _ h => s b o h
theorem But.upd {a : Addr} {H H' : Hp} {o : HO} (x : But a H H') : But a H (upd H' a o) := fun b u n h => by
  rw [upd_ne n]
  exact x b u n h
theorem But.new {a p : Addr} {H H' : Hp} {o : HO} (x : But a H H') (h : H' p = none) : But a H (L2.upd H' p o) := fun b u n e => by
  have e' := x b u n e
  rw [upd_ne (ne_of_none e' h)]
  exact e'
theorem But.seq {K : PySem.W.Frag} {H H' : Hp} {a b : Addr} {xs : List V} (e : But a H H') (n : b ≠ a) (h : SqL K H b xs) : SqL K H' b xs := by
  rcases h with (h | ⟨o, h⟩) | h
  · exact .inl (.inl (e _ _ n h))
  · exact .inl (.inr ⟨o, e _ _ n h⟩)
  · exact .inr h
/-! ### a def of the top, under its name -/
structure Dd (K : PySem.W.Frag) (mg : Str → Option Value) (x : Str) (st : Stmt) (ps : List Str) : Prop where
  ex : ∃ (f : Addr) (fd : FuncData), L2.Fun K x x st f fd ∧ mg x = some (.ref f) ∧ Binds K fd ps []
section
variable {P : Program} {w : World} {K : PySem.W.Frag} {mg : Str → Option Value} {base : Heap}
theorem Dd.cal {x : Str} {st : Stmt} {N ps : List Str} {k : Nat} {sp : Sp} (D : Dd K mg x st ps) (S : FnScope N ps (defScope st)) (len : ∀ vs H Q E, sp vs H Q E → vs.length = ps.length)
    (hbody : ∀ (f : Addr) (cdv : Value) (A : Around) (outer : List Env) (s : Shared) (H : Hp) (vs : List V) (Q : VK) (E : XK), Room k (A.deeper (envOfC x (defScope st) s.heap.objs.size f cdv)) → sp vs H Q E →
      ∃ t, PSs (cxOf CX0 P w K mg base N x (defScope st) f cdv A outer s H E).nox (defBody st) t ∧ t { nx := fun _ H' => Q .non H', rt := Q } (start N vs) H) : C8.Cal P w K mg base (k + 1) x sp [] := by
  obtain ⟨f, fd, F, g, b⟩ := D.ex
  exact ⟨f, fd, ps, [], F.ok S len (fun cdv A outer s H vs Q E hr h => hbody f cdv A outer s H vs Q E hr h), g, F.kp, b, .nil⟩
end
/-! ### what is drawn from -/
def BoxL (n : Nat) (b : List V) : Prop := ∃ b0 b1 b2 : Int, b = [.int b0, .int b1, .int b2] ∧ 0 ≤ b0 ∧ 0 ≤ b1 ∧ b1 < 4611686018427387904 ∧ 0 ≤ b2 ∧ b2 ≤ n
def spTake : Sp := fun vs H Q _ => ∃ (a : Addr) (many : Int) (n : Nat) (b : List V), vs = [.ref a, .int many] ∧ H a = some (.lst b) ∧ BoxL n b ∧ n < 1000000 ∧ 0 < many ∧ many < 1073741824 ∧
  ∀ (r : Int) (b' : List V), 0 ≤ r → r < many → BoxL (n + 1) b' → Q (.int r) (upd H a (.lst b'))
def spDip (K : PySem.W.Frag) : Sp := fun vs H Q _ => ∃ (a : Addr) (k : Nat) (ns : List Int), vs = [.ref a, .int k] ∧ SqL K H a (ns.map V.int) ∧ k ≤ 63 ∧
  ∀ (p : Addr) (b : List V), H p = none → BoxL 0 b → Q (.ref p) (upd H p (.lst b))
def spFold (K : PySem.W.Frag) : Sp := fun vs H Q _ => ∃ (a : Addr) (size : Nat) (ns : List Int), vs = [.ref a, .int size] ∧ SqL K H a (ns.map V.int) ∧ ns.length ≤ 63 ∧ 1 ≤ size ∧ size ≤ 8 ∧
  ∀ (H' : Hp) (p : Addr) (ms : List Int), Same H H' → H p = none → H' p = some (.lst (ms.map V.int)) → ms.length ≤ size → Q (.ref p) H'
/-- the built-in names that the law uses stand as they were -/
structure Bt (mg : Str → Option Value) : Prop where
  len : mg "len" = none
  abs : mg "abs" = none
  int : mg "int" = none
  list : mg "list" = none
  enumerate : mg "enumerate" = none
  range : mg "range" = none
theorem cut_len (xs : List V) (lo hi : Option Int) : (cutV xs lo hi).length ≤ xs.length := by
  unfold cutV
  rw [List.length_take, List.length_drop]
  omega
theorem cut_ints (ns : List Int) (lo hi : Option Int) : ∃ ms : List Int, cutV (ns.map V.int) lo hi = ms.map V.int ∧ ms.length ≤ ns.length := by
  refine ⟨(ns.drop (HT.sIx (ns.map V.int).length 0 lo)).take (HT.sIx (ns.map V.int).length (ns.map V.int).length hi - HT.sIx (ns.map V.int).length 0 lo), ?_, ?_⟩
  · unfold cutV
    rw [List.map_take, List.map_drop]
  · rw [List.length_take, List.length_drop]
    omega
theorem cut_to (ns : List Int) (size : Nat) : cutV (ns.map V.int) none (some (size : Int)) = (ns.take size).map V.int := by
  unfold cutV
  rw [HT.sIx_none, show HT.sIx (ns.map V.int).length (ns.map V.int).length (some (size : Int)) = min size (ns.map V.int).length from HT.sIx_nat _ _ size, List.map_take, List.length_map]
  show ((ns.map V.int).drop 0).take (min size ns.length - 0) = _
  rw [List.drop_zero, Nat.sub_zero]
  by_cases h : size ≤ ns.length
  · rw [Nat.min_eq_left h]
  · rw [Nat.min_eq_right (by omega), List.take_of_length_le (by rw [List.length_map]; omega), List.take_of_length_le (by rw [List.length_map]; omega)]
theorem cut_from_nil (ns : List Int) (size : Nat) (h : ns.length ≤ size) (hi : Option Int) : cutV (ns.map V.int) (some (size : Int)) hi = [] := by
  unfold cutV
  rw [show HT.sIx (ns.map V.int).length 0 (some (size : Int)) = min size (ns.map V.int).length from HT.sIx_nat _ _ size, List.drop_eq_nil_of_le (by rw [List.length_map]; omega), List.take_nil]
section
variable {X : Cx} {k j n i : Nat} {x : Str} {sp : Sp} {p pos : Pos} {e : Expr} {es : List Expr} {kws : List Keyword} {t tk : TA} {te : TE} {ks : List Str} {gV : List V → List V → List V}
/-! ### what is never reached -/
theorem pe_never {e : Expr} : PE X e (fun _ _ _ => False) := ⟨fun _ _ _ _ _ _ h => h.elim⟩
theorem pt_never {e : Expr} : PT X e (fun _ _ _ => False) := ⟨fun _ _ _ _ _ _ h => h.elim⟩
/-! ### calls with keywords -/
structure KCal (P : Program) (w : World) (K : PySem.W.Frag) (mg : Str → Option Value) (base : Heap) (k : Nat) (x : Str) (sp : Sp) (n : Nat) (ks : List Str) (gV : List V → List V → List V) : Prop where
  ex : ∃ (f : Addr) (fd : FuncData) (ps : List Str) (g : List Value → List Value → List Value), FnOk P w K mg base CX0 k f fd ps sp ∧ mg x = some (.ref f) ∧ PySem.W.keepIn K (.ref f) = true ∧ KBn K fd ps n ks g gV
theorem pe_kw (c : KCal X.prog X.w X.K X.mg X.base k x sp n ks gV) (hr : Room j X.A) (hk : k ≤ j) (hg : Gl X x) (ha : PA X (e :: es) t) (hkw : PK X kws tk)
    (hall : (backToKw pos (keywordEach kws X.env)).all (·.1.isSome) = true := by rfl) (hks : (backToKw pos (keywordEach kws X.env)).filterMap (·.1) = ks := by rfl)
    (hdb : (x == ("__debug__" : Str)) = false := by decide) (he : starEach (e :: es) X.env = (false, eval e X.env) :: starEach es X.env := by rfl)
    (hpl : ((backTo pos (starEach (e :: es) X.env)).any (·.1) || (backToKw pos (keywordEach kws X.env)).any (·.1.isNone)) = false := by rfl) :
    PE X (.Call (.Name x p) (e :: es) kws pos) (tCallN n ks.length sp gV E0 t tk) := by
  obtain ⟨f, fd, ps, g, F, hm, kp, b⟩ := c.ex
  exact pe_callN F (hr.mono hk) hg hm kp b pass0 ha hkw hall hks hdb he hpl
theorem pe_kw0 (c : KCal X.prog X.w X.K X.mg X.base k x sp 0 ks gV) (hr : Room j X.A) (hk : k ≤ j) (hg : Gl X x) (hkw : PK X kws tk)
    (hall : (backToKw pos (keywordEach kws X.env)).all (·.1.isSome) = true := by rfl) (hks : (backToKw pos (keywordEach kws X.env)).filterMap (·.1) = ks := by rfl)
    (hdb : (x == ("__debug__" : Str)) = false := by decide)
    (hpl : ((backTo pos (starEach [] X.env)).any (·.1) || (backToKw pos (keywordEach kws X.env)).any (·.1.isNone)) = false := by rfl) :
    PE X (.Call (.Name x p) [] kws pos) (tCallN 0 ks.length sp gV E0 tNil tk) := by
  obtain ⟨f, fd, ps, g, F, hm, kp, b⟩ := c.ex
  refine ⟨fun pins s σ H Q I h => ?_⟩
  refine wpAny_Call_Name_kw (ld_glob I hg hm ?_ hdb)
  refine PySem.W.callWith_KW0 (h₀ := X.base) I.ok.mod.kin kp hall ?_ hpl
  refine thn (hkw.run pos pins s σ H _ I h) fun ws s2 ⟨zs, H2, I2, rz, l1, l2, q2⟩ => ⟨I2.kIn, ?_⟩
  rw [hks]
  exact run_fnN (us := []) (vs := []) F (hr.mono hk) b pass0 I2 .nil rz rfl l2 q2
/-! ### x(*y), x a local name that holds a def -/
def tCallHS (P : Program) (w : World) (K : PySem.W.Frag) (mg : Str → Option Value) (base : Heap) (k i : Nat) (te : TE) : TE := fun σ H Q => ∃ f sp, σ[i]? = some (some (.ref f)) ∧ Held P w K mg base k f sp ∧
  te σ H fun y H1 => ∃ a xs, y = V.ref a ∧ (SqT K H1 a xs ∨ SqL K H1 a xs) ∧ sp xs H1 Q (fun _ _ _ => False)
theorem pe_callHS {sp_ : Pos} (hr : Room k X.A) (hN : X.N[i]? = some x) (hv : Vis X.env.scope x) (he : PE X e te)
    (hdb : (x == ("__debug__" : Str)) = false := by decide) (hcd : (x == ("__classdict__" : Str)) = false := by decide)
    (hst : starEach [.Starred e sp_] X.env = [(true, eval e X.env)] := by rfl) :
    PE X (.Call (.Name x p) [.Starred e sp_] [] pos) (tCallHS X.prog X.w X.K X.mg X.base k i te) := by
  refine ⟨fun pins s σ H Q I h => ?_⟩
  obtain ⟨f, sp, hs, hH, ht⟩ := h
  obtain ⟨fd, ps, F, hk, hb⟩ := hH.ex
  refine wpAny_Call_Name_kw (thn ((pe_var (pos := p) hN hv hdb hcd).run pins s σ H (fun v H1 => v = .ref f ∧ H1 = H) I ⟨.ref f, hs, rfl, rfl⟩) fun u s1 ⟨v, H1, I1, r1, q1⟩ => ?_)
  obtain ⟨rfl, rfl⟩ := q1
  cases r1
  refine PySem.W.callWith_S (h₀ := X.base) I.ok.mod.kin hk (thn (he.run pins s1 σ _ _ I1 ht) fun v s2 ⟨y, H2, I2, ry, a, xs, ey, hxs, q⟩ => ?_) hst
  subst ey
  obtain rfl : v = Value.ref a := ry
  refine StX.star_any I2 hxs fun us s3 I3 rv => ⟨I3.kIn, ?_⟩
  exact run_fn (E := fun _ _ _ => False) F hr hb .nil (fun _ _ _ _ _ _ _ z => z.elim) I3 rv (by rw [List.append_nil]; exact q)
end
section
variable {K : PySem.W.Frag} {x qual : Str} {params : Arguments} {body : List Stmt} {scope : Scope} {kws : List (Str × V)} {f : Addr} {fd : FuncData} {ps : List Str}
/-- keywords, and keyword-only defaults for those that lack; no other defaults -/
theorem kbinds0 (F : FunD K x qual params body scope [] kws f fd) (n : Nat) (ks : List Str) (g : {α : Type} → List α → List α → List α → List α) (hk : kws ≠ [])
    (hrel : ∀ {vs mz zs : List V} {us mv ws : List Value}, Vals vs us → Vals mz mv → Vals zs ws → Vals (g vs mz zs) (g us mv ws))
    (h : ∀ (D : Addr) (doc pm : Value) (an : Option Addr) (cdv ct : Value) (us mv ws : List Value), us.length = n → mv.length = kws.length → ws.length = ks.length →
      KwChain D ((kws.map (·.1)).zip mv) (bindArgs (PySem.W.fnOf x qual params body scope .none (.ref D) doc pm an cdv ct) ⟨us, ks.zip ws⟩) (ps.zip (g us mv ws))) :
    ∃ mv : List Value, KBn K fd ps n ks (fun us ws => g us mv ws) (fun vs zs => g vs (kws.map (·.2)) zs) := by
  obtain ⟨oc, od, dV, kV, doc, pm, an, cdv, ct, osl, rfl, lk, hcd, hD, hK⟩ := F.ex
  rcases hD with ⟨_, rfl⟩ | ⟨e, _⟩
  · rcases hK with e | ⟨D, rfl, hq⟩
    · exact absurd e hk
    · obtain ⟨mv, hl, rk, hks⟩ := kwd_vals hq
      refine ⟨mv, ⟨fun s us ws X l1 l2 => ?_, fun r1 r2 => hrel r1 rk r2⟩⟩
      exact BindsTo.of_looks fun M => KwChain.looks X hks (h D doc pm an cdv ct us mv ws l1 hl l2)
  · exact absurd rfl e
/-- keywords alone, every parameter named or placed -/
theorem kbindsN (F : FunD K x qual params body scope [] kws f fd) (n : Nat) (ks : List Str) (g : {α : Type} → List α → List α → List α)
    (hrel : ∀ {vs zs : List V} {us ws : List Value}, Vals vs us → Vals zs ws → Vals (g vs zs) (g us ws))
    (h : ∀ (kV doc pm : Value) (an : Option Addr) (cdv ct : Value) (us ws : List Value), us.length = n → ws.length = ks.length →
      bindArgs (PySem.W.fnOf x qual params body scope .none kV doc pm an cdv ct) ⟨us, ks.zip ws⟩ = pure (ps.zip (g us ws))) :
    KBn K fd ps n ks (fun us ws => g us ws) (fun vs zs => g vs zs) := by
  obtain ⟨oc, od, dV, kV, doc, pm, an, cdv, ct, osl, rfl, lk, hcd, hD, hK⟩ := F.ex
  rcases hD with ⟨_, rfl⟩ | ⟨e, _⟩
  · exact ⟨fun s us ws X l1 l2 => .of_eq (h kV doc pm an cdv ct us ws l1 l2), fun r1 r2 => hrel r1 r2⟩
  · exact absurd rfl e
end
/-! ### d.update(e) -/
def rDUpd : V → List V → Hp → VK → Prop := fun x vs H Q => ∃ (a b : Addr) (kvs more : List (Key × V)), x = .ref a ∧ vs = [.ref b] ∧ a ≠ b ∧ H a = some (.dK kvs) ∧ H b = some (.dK more) ∧ kvs.length + more.length ≤ 1000 ∧ Q .non (upd H a (.dK (mergeK kvs more)))
theorem mtd_update {X : Cx} : MtR X "dict.update" rDUpd := by
  intro pins s σ H x vs v us Q I rx rv h
  obtain ⟨a, b, kvs, more, ex, ev, nab, ea, eb, hz, q⟩ := h
  subst ex
  subst ev
  obtain rfl : v = Value.ref a := rx
  obtain ⟨u, eu, ru⟩ := rv.one
  subst eu
  obtain rfl : u = Value.ref b := ru
  obtain ⟨z1, ls1, vs1, r1, d1⟩ := I.hok a _ ea
  obtain ⟨z2, ls2, vs2, r2, d2⟩ := I.hok b _ eb
  have l1 : kvs.length = vs1.length := Paired.length r1
  have l2 : more.length = vs2.length := Paired.length r2
  refine call_meetsIn PySem.F.slot_dict_update d1.typeIs PySem.F.entry_dict_update (PySem.F.args_dict_update_2 _ _) (meets_dict_update (mixKind X.prog X.w) a b nab ls2)
    ⟨vs1, vs2, d1, d2, (by rw [← l1, ← l2]; exact Nat.le_trans hz (by decide)), fun h' hm _ hs => ?_⟩
  refine ⟨.non, upd H a (.dK (mergeK kvs more)), ?_, rfl, q⟩
  have hlen : (mergeK kvs more).length ≤ sizeLine := by
    have := length_mergeK more kvs
    have h2 : (1000 : Nat) ≤ sizeLine := by decide
    omega
  obtain ⟨oo, es', ep', ho', _⟩ := id hm
  exact I.write (t' := s.toks) (e := a) (o := .dK (mergeK kvs more)) (by rw [ea]; trivial) (.inl rfl) (fun c u nc e => (hs.2 c nc).trans e) ⟨oo, ho'⟩ ⟨hlen, ls1, merged vs1 vs2, KV.merge r2 r1, hm⟩
/-! ### an exception that is held as a value: its class, its own dict -/
def exv (a C d : Addr) : HO := .ext fun g => ∃ ob fv, g.get? a = some ob ∧ ob.cls = .ref C ∧ ob.dict = some d ∧ ob.data = .fields fv
theorem exv_ok {P : Program} {w : World} {H : Hp} {g : Heap} {a C d : Addr} {ob : Obj} {fv : Array Value} (h1 : g.get? a = some ob) (h2 : ob.cls = .ref C) (h3 : ob.dict = some d) (h4 : ob.data = .fields fv) : ObjOk P w H g a (exv a C d) :=
  ⟨⟨ob, fv, h1, h2, h3, h4⟩, ⟨ob, h1⟩, fun g1 g2 ⟨o2, f2, e1, e2, e3, e4⟩ k => ⟨o2, f2, k _ e1, e2, e3, e4⟩⟩
theorem exv_at {P : Program} {w : World} {H : Hp} {g : Heap} {a C d : Addr} (ok : HOk P w H g) (e : H a = some (exv a C d)) : ∃ ob fv, g.get? a = some ob ∧ ob.cls = .ref C ∧ ob.dict = some d ∧ ob.data = .fields fv := by
  have z : ObjOk P w H g a (.ext fun g => ∃ ob fv, g.get? a = some ob ∧ ob.cls = .ref C ∧ ob.dict = some d ∧ ob.data = .fields fv) := ok a _ e
  exact z.1
section
variable {X : Cx} {pins : List (Addr × Obj)} {σ : L2.St} {H : Hp} {s : Shared}
/-- an object that was made here and is not yet tracked is tracked from now on -/
theorem inv_track {a : Addr} {u : HO} (I : Inv X pins σ H s) (na : H a = none) (nw : ∀ o, X.s_0.heap.get? a ≠ some o) (nL : a ≠ X.env.locals) (nC : ∀ x c, X.env.cells.lookup x = some c → c ≠ a) (nP : ∀ p ∈ X.pn ++ pins, p.1 ≠ a)
    (new : ObjOk X.prog X.w (upd H a u) s.heap a u) : Inv X pins σ (upd H a u) s where
  ok := I.ok
  os := I.os
  bare := I.bare
  base := {
    keep := I.base.keep
    slot := I.base.slot
    free := fun b o e n hx => by
      have nb : b ≠ a := fun z => nw o (z ▸ e)
      rw [upd_ne nb]
      exact I.base.free b o e n hx
    there := I.base.there
    tups := fun b xs e => by
      have e' := I.base.tups b xs e
      rw [upd_ne (ne_of_none e' na)]
      exact e'
    frzs := fun b o xs e => by
      have e' := I.base.frzs b o xs e
      rw [upd_ne (ne_of_none e' na)]
      exact e'
    tbls := fun b ps e => by
      obtain ⟨m, e'⟩ := I.base.tbls b ps e
      exact ⟨m, by rw [upd_ne (ne_of_none e' na)]; exact e'⟩ }
  loc := I.loc
  cell := I.cell
  free := by
    rw [upd_ne (Ne.symm nL)]
    exact I.free
  freeC := fun x c e => by
    rw [upd_ne (nC x c e)]
    exact I.freeC x c e
  pin := fun p hp => by
    obtain ⟨p1, p2, p3⟩ := I.pin p hp
    exact ⟨p1, by rw [upd_ne (nP p hp)]; exact p2, p3⟩
  hok := fun b o e => by
    by_cases hb : b = a
    · subst hb
      rw [upd_same] at e
      cases e
      exact new
    · rw [upd_ne hb] at e
      exact (I.hok b o e).stay (fun _ _ _ z => z) (fun c z => by rw [upd_ne (ne_of_none z na)]; exact z) (fun c xs z => by rw [upd_ne (ne_of_none z na)]; exact z)
  len := I.len
end
/-- what 'except x as n' wishes, where the exception is tracked behind the suite -/
def wKeep (K : PySem.W.Frag) (c : Value) (i : Nat) (ts : Addr → Value → Option Addr → TS) (Wout : WX) (D : Ends) : WX := fun cls d σ H =>
  ∃ (C dd : Addr) (b : Bool), cls = .ref C ∧ d = some dd ∧ PySem.W.exmOne K cls c = some b ∧
    (b = true → ∀ a, H a = none → ts a cls d { nx := fun σ2 H2 => D.nx (σ2.set i none) (upd H2 a (exv a C dd)), rt := D.rt, bk := fun _ _ => False, ct := fun _ _ => False } (σ.set i (some (.ref a))) H) ∧ (b = false → Wout cls d σ H)
section
variable {X : Cx} {x n : Str} {c : Value} {i : Nat} {body suite : List Stmt} {b0 : Stmt} {np pos pos' : Pos} {tb : WX → TS} {ts : Addr → Value → Option Addr → TS} {Wout : WX}
theorem ps_try_keep (hst : X.stack = X.env :: X.outer) (hfr0 : X.env.frame = some X.env.locals) (hex : X.ex = []) (nd : X.N.Nodup) (hi : X.N[i]? = some n) (hk : X.env.kindOf n = some .local) (hnm : Names X x c) (tk : Takes X Wout)
    (hbody : ∀ (W : WX) (pn : List (Addr × Obj)) (xe : Value → Shared → Prop), Takes (X.tr pn xe) W → PassesOwn (model X.prog X.w) X.A X.env xe → PSs (X.tr pn xe) body (tb W))
    (hsuite : ∀ (a : Addr) (oe : Obj) (cls : Value) (d : Option Addr) (pn : List (Addr × Obj)), Zc cls d oe → (∃ vs, oe.data = .fields vs) → PSs (X.suite a ((a, oe) :: pn)) (b0 :: suite) (ts a cls d)) :
    PS X (.Try body [.ExceptHandler (some (.Name x np)) (some n) (b0 :: suite) pos'] [] [] pos) (fun D σ H => tb (wKeep X.K c i ts Wout D) D σ H) := by
  refine ⟨fun pins s σ H D I rd => ?_⟩
  have okX := I.ok
  have hA : X.A.frames = some (X.env :: X.outer) := okX.frames.trans (congrArg some hst)
  refine wpAny_Try_except (wpAny_mono ((hbody (wKeep X.K c i ts Wout D) (X.pn ++ pins)
    (fun e s1 => wpAny (model X.prog X.w) X.A (noteFrame e X.env) (fun _ s2 => wpAny (model X.prog X.w) X.A (setFlight e none) (fun _ s3 => wpAny (model X.prog X.w) X.A (handleBy e X.env [.ExceptHandler (some (.Name x np)) (some n) (b0 :: suite) pos']) (SP X pins D) X.xe s3) X.xe s2) X.xe s1)
    (fun u t xx => ?_) PassesOwn.looking).run [] s σ H D (I.toTry _) rd) (fun fl s1 hfl => ?_) (fun _ _ z => z))
  · obtain ⟨a, G, sI, pins2, σ2, H2, cls, d, eu, J0, inG, upS, sky0, na, eos, bare, C, dd, b, ecls, ed, hexm, hyes, hno⟩ := xx
    subst eu
    subst ecls
    subst ed
    have J : Inv X pins σ2 H2 sI := J0.ofTry okX
    rw [hst] at sky0
    refine Sky.land Zc.steady hA hfr0 sky0 fun g3 fly3 up3 => ?_
    have J3 : Inv X pins σ2 H2 { t with heap := g3 } := J.landed inG fly3.1 (upS.trans up3) eos bare
    obtain ⟨o3, f3, at3, z3, dat3⟩ := fly3.there
    have offF : a ∉ frs (X.env :: X.outer) := fun hm => by
      obtain ⟨_, ob, eo, nof⟩ := fly3.2.2.1.mem hm
      have eq : o3 = ob := Option.some.inj (at3.symm.trans eo)
      exact nof _ (eq ▸ dat3)
    have nLoc : a ≠ X.env.locals := fun z => offF (List.mem_filterMap.mpr ⟨X.env, List.mem_cons_self, by rw [hfr0, z]⟩)
    have nFs : a ∉ X.fs := fun hm => by
      obtain ⟨ev, hev, qe⟩ := List.mem_filterMap.mp hm
      exact offF (List.mem_filterMap.mpr ⟨ev, List.mem_cons_of_mem _ hev, qe⟩)
    have outG : G.get? a = none := fly3.2.1
    have outI : ∀ o, sI.heap.get? a ≠ some o := fun o z => by
      have z2 := inG a o z (by rw [hst]; exact offF)
      rw [outG] at z2
      cases z2
    have out0 : ∀ o, X.s_0.heap.get? a ≠ some o := fun o z => by
      obtain ⟨o', z2⟩ := J.base.there a o z (by rw [hex]; exact List.not_mem_nil)
      exact outI o' z2
    have noPin : ∀ p ∈ X.pn ++ pins, p.1 ≠ a := fun p hp z => outI p.2 (z ▸ (J.pin p hp).1)
    refine wpAny_handleBy_cons (codeAny_handlers_test ?_) (fun q => by cases q)
    have isT : PySem.W.Looks (model X.prog X.w) g3 (typeOf (.ref a)) (.ref C) := fun _ _ _ _ kp q => wpAny_typeOf_ref (kp _ _ at3) (by rw [z3.1]; exact q)
    have asks := PySem.W.exm_one (M := model X.prog X.w) J3.kIn isT hexm
    have S3 := J3.suite at3 dat3 na nLoc nFs
    have named : ∀ {Q E : Value → Shared → Prop}, Q c { t with heap := g3 } → wpAny (model X.prog X.w) (X.A.mark (some (.ref a))) (eval (.Name x np) X.env) Q E { t with heap := g3 } := fun {Q E} q => by
      obtain ⟨gl, db, way⟩ := hnm
      rcases way with m1 | ⟨m1, m2, m3⟩
      · exact ld_glob (X := X.suite a ((a, o3) :: (X.pn ++ pins))) S3 gl m1 q db
      · exact ld_blt (X := X.suite a ((a, o3) :: (X.pn ++ pins))) S3 gl m1 m2 q m3 db
    refine named (asks.here ?_)
    cases b with
    | true =>
      refine codeAny_handlers_suite_as (HandSPX.lands_againZ fly3 fun g4 fly4 up4 => ?_)
      have J4 : Inv X pins σ2 H2 { t with heap := g4 } := J.landed inG fly4.1 ((upS.trans up3).trans up4) eos bare
      obtain ⟨o4, f4, at4, z4, dat4⟩ := fly4.there
      have S4 := J4.suite at4 dat4 na nLoc nFs
      refine store_ok (X := X.suite a ((a, o4) :: (X.pn ++ pins))) (v := .ref a) S4 nd hi (.inl hk) rfl (fun s5 S5 => ?_) (.inr hk)
      refine wpAny_mono ((hsuite a o4 (.ref C) (some dd) (X.pn ++ pins) z4 ⟨_, dat4⟩).run [] s5 _ H2 _ S5 (hyes rfl a na)) (fun fl s6 hfl => ?_) (fun _ _ z => z.elim)
      cases fl with
      | next =>
        obtain ⟨σ6, H6, S6, q6⟩ := hfl
        refine gone_ok (X := X.suite a ((a, o4) :: (X.pn ++ pins))) S6 nd hi hk fun s7 S7 => ?_
        obtain ⟨at7, na7, _, _, nc7⟩ := S7.pin (a, o4) (by rw [List.append_nil]; exact List.mem_cons_self)
        have J7 : Inv X pins (σ6.set i none) H6 s7 := S7.unsuite okX
        refine ⟨_, _, inv_track (u := exv a C dd) J7 na7 out0 nLoc (fun y cc e z => ?_) noPin (exv_ok at7 z4.1 z4.2 dat4), q6⟩
        obtain ⟨vv, oc, ec, dc⟩ := J7.cell y cc e
        rw [z, at7] at ec
        cases ec
        rw [dat4] at dc
        cases dc
      | ret u =>
        obtain ⟨v6, σ6, H6, S6, r6, q6⟩ := hfl
        exact gone_ok (S6.unsuite okX) nd hi hk fun s7 J7 => ⟨_, _, _, J7, r6, q6⟩
      | brk =>
        obtain ⟨_, _, _, q6⟩ := hfl
        exact q6.elim
      | cont =>
        obtain ⟨_, _, _, q6⟩ := hfl
        exact q6.elim
    | false =>
      refine wpAny_handleBy_nil ?_
      obtain ⟨_, _, _, ob, fv, T, oT, _, eo, _, dat, h1, _⟩ := id fly3
      unfold PySem.passOn
      refine wpAny_bind (wpAny_field eo dat h1 ?_)
      rw [if_neg (show ¬ ((Value.ref T == Value.none) = true) by simp)]
      have leave : wpAny (model X.prog X.w) X.A (setFlight (.ref a) X.env.frame) (fun _ s4 => wpAny (model X.prog X.w) X.A (throw (.ref a) : Sem Flow) (SP X pins D) X.xe s4) X.xe { t with heap := g3 } := by
        rw [hfr0]
        refine HandSPX.setFlight_upZ fly3 fun g4 held4 up4 => wpAny_throw (tk _ _ ⟨a, G, sI, pins, σ2, H2, .ref C, some dd, rfl, J, inG, (upS.trans up3).trans up4, .inr (.inr ?_), na, eos, bare, hno rfl⟩)
        rw [hst]
        exact held4
      first
        | exact wpAny_bind (wpAny_pure (wpAny_bind leave))
        | exact wpAny_bind leave
  · cases fl with
    | next =>
      obtain ⟨σ1, H1, J1, q1⟩ := hfl
      exact wpAny_execs_nil ⟨_, _, J1.ofTry okX, q1⟩
    | brk =>
      obtain ⟨σ1, H1, J1, q1⟩ := hfl
      exact ⟨_, _, J1.ofTry okX, q1⟩
    | cont =>
      obtain ⟨σ1, H1, J1, q1⟩ := hfl
      exact ⟨_, _, J1.ofTry okX, q1⟩
    | ret u =>
      obtain ⟨v1, σ1, H1, J1, r1, q1⟩ := hfl
      exact ⟨_, _, _, J1.ofTry okX, r1, q1⟩
end
/-! ### what such a value bears, and of which class it is -/
structure XvC (K : PySem.W.Frag) (C : Addr) : Prop where
  ga : PySem.W.findIn K (.ref C) "__getattribute__" = some (some (.builtin "BaseException.__getattribute__"))
  gg : PySem.W.findIn K (.ref C) "__getattr__" = some none
  sb : PySem.W.subIn K (.ref C) (.type "BaseException") = some true
  hd : PySem.W.hasDictIn K C = true
  kl : PySem.W.findIn K (.ref C) "__class__" = some (some (.builtin "object.__class__"))
  kg : PySem.W.specialIn K (.builtin "object.__class__") "__get__" = some (some (.builtin "getset_descriptor.__get__"))
  kt : PySem.W.takesIn K (.builtin "object.__class__") = some true
  ob : PySem.W.mroIn K C (.type "object") = some true
def tXv (K : PySem.W.Frag) (f : Str) (te : TE) : TE := fun σ H Q => te σ H fun y H1 => ∃ (a C d : Addr) (fs : List (Str × V)) (v : V), y = .ref a ∧ H1 a = some (exv a C d) ∧ XvC K C ∧ PySem.W.findIn K (.ref C) f = some none ∧ H1 d = some (.xd fs) ∧ fs.lookup f = some v ∧ Q v H1
theorem inst_of {X : Cx} {pins : List (Addr × Obj)} {σ : L2.St} {H : Hp} {s : Shared} {a C d : Addr} {fs : List (Str × V)} (I : Inv X pins σ H s) (ea : H a = some (exv a C d)) (ed : H d = some (.xd fs)) :
    ∃ (ob od : Obj) (mA : Str → Option Value), PySem.W.InstAt s.heap a ob C (some od) ∧ (∀ f, RelO (fs.lookup f) (mA f)) ∧ ∀ nm, PySem.W.lookIn nm od = some (mA nm) := by
  obtain ⟨ob, fv, h1, h2, h3, h4⟩ := exv_at I.hok ea
  obtain ⟨mA, hns, hr⟩ : ObjOk X.prog X.w H s.heap d (.xd fs) := I.hok d _ ed
  obtain ⟨od, ho, hl⟩ := lookIn_ns hns
  refine ⟨ob, od, mA, ⟨h1, h2, ?_, ?_⟩, hr, hl⟩
  · unfold PySem.W.notCls
    rw [h4]
  · rw [h3]
    exact ho
theorem pe_xv {X : Cx} {e : Expr} {te : TE} {pos : Pos} {f : Str} (he : PE X e te) (hb : attributeBase e f X.env (eval e X.env) = eval e X.env := by rfl) : PE X (.Attribute e f pos) (tXv X.K f te) := by
  refine ⟨fun pins s σ H Q I rd => attr_of hb (thn (he.run pins s σ H _ I rd) fun u s1 hh => ?_)⟩
  obtain ⟨y, H1, I1, ry, a, C, d, fs, v, ey, ea, T, hno, ed, hl, q⟩ := hh
  subst ey
  obtain rfl : u = Value.ref a := ry
  obtain ⟨ob, od, mA, J, hr, hlk⟩ := inst_of I1 ea ed
  obtain ⟨u2, e2, r2⟩ := RelO.some_of (v := v) (o := mA f) (by rw [← hl]; exact hr f)
  exact HandSPX.exc_get I1.kIn J T.ga T.gg T.sb (PySem.W.findObj_own T.hd hno rfl (by rw [hlk, e2])) (handed_of r2) ⟨v, H1, I1.tok _, r2, q⟩
/-- isinstance(e, c) -/
def rXvI (K : PySem.W.Frag) : List V → Hp → VK → Prop := fun xs H Q => ∃ (a C d : Addr) (fs : List (Str × V)) (c : V) (cu : Value) (b : Bool), xs = [.ref a, c] ∧ H a = some (exv a C d) ∧ XvC K C ∧ H d = some (.xd fs) ∧ ClsV c cu ∧ PySem.W.kitOne K (.ref C) cu = some b ∧ Q (.bl b) H
theorem call_isXv {X : Cx} : CallR X (.builtin "isinstance") (rXvI X.K) := by
  intro pins s σ H xs us Q I r h
  obtain ⟨a, C, d, fs, c, cu, b, rfl, ea, T, ed, hc, hk, q⟩ := h
  cases r with
  | cons r1 rr =>
    cases rr with
    | cons r2 r3 =>
      cases r3
      cases r1
      have ec := hc.eq r2
      subst ec
      obtain ⟨ob, od, mA, J, hr, hlk⟩ := inst_of I ea ed
      have hcl : (PySem.W.clsIn X.K C).isSome = true := by
        obtain ⟨cd, e1, _⟩ := PySem.W.any_some T.hd
        rw [e1]
        rfl
      exact PySem.W.kia_one (PySem.W.kitx_exc hcl T.ga T.gg T.sb T.kl T.kg T.kt T.ob) I.kIn J hk (fun z => nomatch z) fun tk => ⟨.bl b, H, I.kept (t' := tk) fun _ _ z => z, rfl, q⟩
/-- isinstance(e, (c1, c2, ..)) -/
def rXvT (K : PySem.W.Frag) : List V → Hp → VK → Prop := fun xs H Q => ∃ (a C d tp : Addr) (fs : List (Str × V)) (cs : List V) (cu : List Value) (b : Bool), xs = [.ref a, .ref tp] ∧ H a = some (exv a C d) ∧ XvC K C ∧ H d = some (.xd fs) ∧ H tp = some (.tup cs) ∧ Paired ClsV cs cu ∧
  PySem.W.kitAny K (.ref C) cu = some b ∧ Q (.bl b) H
theorem call_isXvT {X : Cx} : CallR X (.builtin "isinstance") (rXvT X.K) := by
  intro pins s σ H xs us Q I r h
  obtain ⟨a, C, d, tp, fs, cs, cu, b, rfl, ea, T, ed, et, hc, hk, q⟩ := h
  cases r with
  | cons r1 rr =>
    cases rr with
    | cons r2 r3 =>
      cases r3
      cases r1
      cases r2
      obtain ⟨ob, od, mA, J, hr, hlk⟩ := inst_of I ea ed
      have hcl : (PySem.W.clsIn X.K C).isSome = true := by
        obtain ⟨cd, e1, _⟩ := PySem.W.any_some T.hd
        rw [e1]
        rfl
      obtain ⟨hz, its, rv, ⟨c5, d5, t5, s5⟩, p1, p2, n5, p3⟩ : ObjOk X.prog X.w H s.heap tp (.tup cs) := I.hok tp _ et
      have ei := ClsV.all hc rv
      subst ei
      dsimp only at p2 p3
      subst p2 p3
      exact PySem.W.kia_tup (PySem.W.kitx_exc hcl T.ga T.gg T.sb T.kl T.kg T.kt T.ob) I.kIn J p1 hk (fun z => nomatch z) fun tk => ⟨.bl b, H, I.kept (t' := tk) fun _ _ z => z, rfl, q⟩
/-! ### calls with keywords of a def that may let an error out -/
structure KCalX (P : Program) (w : World) (K : PySem.W.Frag) (mg : Str → Option Value) (base : Heap) (k : Nat) (x : Str) (sp : Sp) (n : Nat) (ks : List Str) (gV : List V → List V → List V) : Prop where
  ex : ∃ (f : Addr) (fd : FuncData) (ps : List Str) (g : List Value → List Value → List Value), FnOk P w K mg base (L2.CX P w) k f fd ps sp ∧ mg x = some (.ref f) ∧ PySem.W.keepIn K (.ref f) = true ∧ KBn K fd ps n ks g gV
structure CalX (P : Program) (w : World) (K : PySem.W.Frag) (mg : Str → Option Value) (base : Heap) (k : Nat) (x : Str) (sp : Sp) (dvs : List V) : Prop where
  ex : ∃ (f : Addr) (fd : FuncData) (ps : List Str) (ds : List Value), FnOk P w K mg base (L2.CX P w) k f fd ps sp ∧ mg x = some (.ref f) ∧ PySem.W.keepIn K (.ref f) = true ∧ Binds K fd ps ds ∧ Vals dvs ds
theorem passX {X : Cx} : Passes (L2.CX X.prog X.w) X (fun _ _ _ => False) := fun _ _ _ _ _ _ _ h => by
  obtain ⟨_, _, _, _, _, _, _, _, _, _, _, _, z⟩ := h
  exact z.elim
section
variable {X : Cx} {k j n : Nat} {x : Str} {sp : Sp} {p pos : Pos} {e : Expr} {es : List Expr} {kws : List Keyword} {t tk : TA} {ks : List Str} {gV : List V → List V → List V} {dvs : List V}
theorem pe_cX (c : CalX X.prog X.w X.K X.mg X.base k x sp dvs) (hr : Room j X.A) (hk : k ≤ j) (hg : Gl X x) (ha : PA X (e :: es) t)
    (hdb : (x == ("__debug__" : Str)) = false := by decide) (he : starEach (e :: es) X.env = (false, eval e X.env) :: starEach es X.env := by rfl) (hpl : (backTo pos (starEach es X.env)).any (·.1) = false := by rfl) :
    PE X (.Call (.Name x p) (e :: es) [] pos) (tCall sp dvs (fun _ _ _ => False) t) := by
  obtain ⟨f, fd, ps, ds, F, hm, kp, b, d⟩ := c.ex
  exact pe_call F (hr.mono hk) hg hm kp b d passX ha hdb he hpl
theorem pe_kwX (c : KCalX X.prog X.w X.K X.mg X.base k x sp n ks gV) (hr : Room j X.A) (hk : k ≤ j) (hg : Gl X x) (ha : PA X (e :: es) t) (hkw : PK X kws tk)
    (hall : (backToKw pos (keywordEach kws X.env)).all (·.1.isSome) = true := by rfl) (hks : (backToKw pos (keywordEach kws X.env)).filterMap (·.1) = ks := by rfl)
    (hdb : (x == ("__debug__" : Str)) = false := by decide) (he : starEach (e :: es) X.env = (false, eval e X.env) :: starEach es X.env := by rfl)
    (hpl : ((backTo pos (starEach (e :: es) X.env)).any (·.1) || (backToKw pos (keywordEach kws X.env)).any (·.1.isNone)) = false := by rfl) :
    PE X (.Call (.Name x p) (e :: es) kws pos) (tCallN n ks.length sp gV (fun _ _ _ => False) t tk) := by
  obtain ⟨f, fd, ps, g, F, hm, kp, b⟩ := c.ex
  exact pe_callN F (hr.mono hk) hg hm kp b passX ha hkw hall hks hdb he hpl
theorem pe_kw0X (c : KCalX X.prog X.w X.K X.mg X.base k x sp 0 ks gV) (hr : Room j X.A) (hk : k ≤ j) (hg : Gl X x) (hkw : PK X kws tk)
    (hall : (backToKw pos (keywordEach kws X.env)).all (·.1.isSome) = true := by rfl) (hks : (backToKw pos (keywordEach kws X.env)).filterMap (·.1) = ks := by rfl)
    (hdb : (x == ("__debug__" : Str)) = false := by decide)
    (hpl : ((backTo pos (starEach [] X.env)).any (·.1) || (backToKw pos (keywordEach kws X.env)).any (·.1.isNone)) = false := by rfl) :
    PE X (.Call (.Name x p) [] kws pos) (tCallN 0 ks.length sp gV (fun _ _ _ => False) tNil tk) := by
  obtain ⟨f, fd, ps, g, F, hm, kp, b⟩ := c.ex
  refine ⟨fun pins s σ H Q I h => ?_⟩
  refine wpAny_Call_Name_kw (ld_glob I hg hm ?_ hdb)
  refine PySem.W.callWith_KW0 (h₀ := X.base) I.ok.mod.kin kp hall ?_ hpl
  refine thn (hkw.run pos pins s σ H _ I h) fun ws s2 ⟨zs, H2, I2, rz, l1, l2, q2⟩ => ⟨I2.kIn, ?_⟩
  rw [hks]
  exact run_fnN (us := []) (vs := []) F (hr.mono hk) b passX I2 .nil rz rfl l2 q2
/-- what it lets out is wished for at the caller's slots -/
def tCallNT (n m : Nat) (sp : Sp) (gV : List V → List V → List V) (W : WX) (t tk : TA) : TE := fun σ H Q => t σ H fun vs H1 => tk σ H1 fun zs H2 => vs.length = n ∧ zs.length = m ∧ sp (gV vs zs) H2 Q (WE W σ)
theorem pe_kwT {W : WX} (c : KCalX X.prog X.w X.K X.mg X.base k x sp n ks gV) (hr : Room j X.A) (hk : k ≤ j) (hg : Gl X x) (tkw : Takes X W) (ha : PA X (e :: es) t) (hkw : PK X kws tk)
    (hall : (backToKw pos (keywordEach kws X.env)).all (·.1.isSome) = true := by rfl) (hks : (backToKw pos (keywordEach kws X.env)).filterMap (·.1) = ks := by rfl)
    (hdb : (x == ("__debug__" : Str)) = false := by decide) (he : starEach (e :: es) X.env = (false, eval e X.env) :: starEach es X.env := by rfl)
    (hpl : ((backTo pos (starEach (e :: es) X.env)).any (·.1) || (backToKw pos (keywordEach kws X.env)).any (·.1.isNone)) = false := by rfl) :
    PE X (.Call (.Name x p) (e :: es) kws pos) (tCallNT n ks.length sp gV W t tk) := by
  obtain ⟨f, fd, ps, g, F, hm, kp, b⟩ := c.ex
  refine ⟨fun pins s σ H Q I h => ?_⟩
  refine wpAny_Call_Name_kw (ld_glob I hg hm ?_ hdb)
  refine PySem.W.callWith_KW (h₀ := X.base) I.ok.mod.kin kp hall (thn (ha.run pos pins s σ H _ I h) fun us s1 ⟨vs, H1, I1, r, q⟩ => ?_) hpl he
  refine thn (hkw.run pos pins s1 σ H1 _ I1 q) fun ws s2 ⟨zs, H2, I2, rz, l1, l2, q2⟩ => ⟨I2.kIn, ?_⟩
  rw [hks]
  have r2 := b.rel r rz
  refine wpAny_call (codeAny_mono (F.run X.A X.stack s2 H2 ⟨us, ks.zip ws⟩ (g us ws) (gV vs zs) Q (WE W σ) (hr.mono hk) I2.env0 (b.to s2 us ws I2.kIn (r.length.symm.trans l1) (rz.length.symm.trans l2)) r2 q2) fun res s' hq => ?_)
  cases res with
  | error er => exact passAt tkw σ pins H2 s2 er s' I2 hq
  | ok fl =>
    cases fl with
    | ret u => exact I2.after hq
    | next => exact hq.elim
    | brk => exact hq.elim
    | cont => exact hq.elim
end
end Thr
namespace PySem
namespace Oxb
open PySem.W PySem.Calls PyProof.Rows PySem.HandSPX
section
open Builtin Builtin.ObjectAttr
variable {prog : Program} {w : World} {A : Around} {R : Result → Shared → Prop} {h0 : Heap} {gs : Array GenState} {dr : Drawn} {tn : Nat} {os : OsState}
/-- the mro of such a class lets a field be stored -/
structure MroOk (m : List Value) : Prop where
  pass : ∀ self, refuseLoop self "__setattr__" m = pure ()
  obj : m.contains (.type "object") = true
  full : m.isEmpty = false
theorem sub_obj {K : W.Frag} {e C : Addr} {ob : Obj} {od : Option Obj} {cd : ClassData} (X : K.In h0) (I : W.InstAt h0 e ob C od) (hcd : W.clsIn K C = some cd) (hm : MroOk cd.mro) : W.Looks (model prog w) h0 (isInstance (.ref e) (.type "object")) true := by
  refine I.type.andThen (W.looks_mroIn X ?_)
  unfold W.mroIn
  rw [hcd, Option.bind_some, if_neg (by rw [hm.full]; decide), hm.obj]
/-- the first field: the dict is laid -/
theorem store_first {K : W.Frag} {nm : Str} {tk : Tok} {v : Value} {e C : Addr} {fv : Array Value} {cd : ClassData} (X : K.In h0) (he : h0.get? e = some { cls := .ref C, data := .fields fv }) (hcd : W.clsIn K C = some cd) (hm : MroOk cd.mro) (hh : cd.hasDict = true) (ha : W.findIn K (.ref C) nm = some none)
    (hq : ∀ h1 t1 dx, (∀ b o, b ≠ e → h0.get? b = some o → h1.get? b = some o) → h0.objs.size ≤ dx → dx ≠ e → h1.get? e = some { cls := .ref C, dict := some dx, data := .fields fv } → h1.Ns1 dx (fun y => if y = nm then some v else none) → R (.ok (.ret .none)) ⟨h1, gs, dr, t1, os⟩) :
    codeAny (model prog w) A (.call (.builtin "object.__setattr__") ⟨[.ref e, .str nm tk, v], []⟩) R ⟨h0, gs, dr, tn, os⟩ := by
  have J : W.InstAt h0 e { cls := .ref C, data := .fields fv } C none := ⟨he, rfl, rfl, trivial⟩
  have hes : e ≠ h0.objs.size := Nat.ne_of_lt (Heap.lt_size he)
  have L1 : W.Looks (model prog w) h0 (mroOf (.ref C)) cd.mro := (W.looks_clsIn X hcd).andThen .now
  have L2 : W.Looks (model prog w) h0 (storeTaker? none) none := .now
  have L4 : W.Looks (model prog w) h0 (classData C) cd := W.looks_clsIn X hcd
  refine codeAny_call_builtin F.store_object.slot.plain F.store_object.entry (@W.check_slot (model prog w) _ _ ⟨h0, gs, dr, tn, os⟩ "object.__setattr__" "object" "__setattr__" (.ref e) [.str nm tk, v] [] _ F.store_object.kind F.store_object.split (sub_obj X J hcd hm) (F.store_object.args (.ref e) (.str nm tk) v) ?_)
  rw [W.osa_eq, refuse_eq]
  refine wpAny_bind (wpAny_bind (J.type.at (wpAny_bind (L1.at ?_))))
  rw [hm.pass]
  refine wpAny_pure (wpAny_bind (J.type.at (wpAny_bind ((W.looks_findIn X ha).at (wpAny_bind (L2.at ?_))))))
  show wpAny _ _ (storeInOwnDict (.ref e) (.ref C) (.str nm tk) nm v false) _ _ _
  obtain ⟨c1, c2, c3, c4, c5, c6, c7, c8, c9, c10, c11⟩ := cd
  dsimp only at hh
  subst hh
  unfold storeInOwnDict ownDictForStores
  repeat (first | with_reducible refine store_in_new ?_ ?_ | with_reducible refine wpAny_loadPart_at he ?_ | with_reducible refine L4.at ?_ | wp_step)
  · exact ⟨_, #[], _, (Heap.get?_update_ne _ _ _ _ hes.symm).trans (Heap.get?_push_at rfl rfl), rfl, fun x hx => absurd hx (by simp), fun _ => rfl⟩
  · intro h1 t1 hn hs
    have he1 : (h0.push { cls := .type "dict", data := .dict #[] }).get? e = some { cls := .ref C, data := .fields fv } := Heap.get?_push_of_some _ he
    refine hq h1 t1 h0.objs.size (fun b o hb ho => ?_) (Nat.le_refl _) hes.symm ((hs.2 e hes).trans (Heap.get?_update_self _ he1 rfl)) hn
    exact (hs.2 b (Nat.ne_of_lt (Heap.lt_size ho))).trans ((Heap.get?_update_ne _ _ _ _ hb).trans (Heap.get?_push_of_some _ ho))
/-- a further field -/
theorem store_more {K : W.Frag} {nm : Str} {tk : Tok} {v : Value} {e C dx : Addr} {fv : Array Value} {cd : ClassData} {m0 : Str → Option Value} {nl : List Str} (X : K.In h0) (he : h0.get? e = some { cls := .ref C, dict := some dx, data := .fields fv }) (hns : h0.Ns1 dx m0) (hw : Within m0 nl) (hz : nl.length ≤ 1000)
    (hcd : W.clsIn K C = some cd) (hm : MroOk cd.mro) (hh : cd.hasDict = true) (ha : W.findIn K (.ref C) nm = some none)
    (hq : ∀ h1 t1, (∀ b o, b ≠ dx → h0.get? b = some o → h1.get? b = some o) → h1.Ns1 dx (fun y => if y = nm then some v else m0 y) → R (.ok (.ret .none)) ⟨h1, gs, dr, t1, os⟩) :
    codeAny (model prog w) A (.call (.builtin "object.__setattr__") ⟨[.ref e, .str nm tk, v], []⟩) R ⟨h0, gs, dr, tn, os⟩ := by
  obtain ⟨oD, esD, epD, hoD, _, _⟩ := hns.count hw
  have J : W.InstAt h0 e { cls := .ref C, dict := some dx, data := .fields fv } C (some oD) := ⟨he, rfl, rfl, hoD⟩
  have L1 : W.Looks (model prog w) h0 (mroOf (.ref C)) cd.mro := (W.looks_clsIn X hcd).andThen .now
  have L2 : W.Looks (model prog w) h0 (storeTaker? none) none := .now
  have L4 : W.Looks (model prog w) h0 (classData C) cd := W.looks_clsIn X hcd
  refine codeAny_call_builtin F.store_object.slot.plain F.store_object.entry (@W.check_slot (model prog w) _ _ ⟨h0, gs, dr, tn, os⟩ "object.__setattr__" "object" "__setattr__" (.ref e) [.str nm tk, v] [] _ F.store_object.kind F.store_object.split (sub_obj X J hcd hm) (F.store_object.args (.ref e) (.str nm tk) v) ?_)
  rw [W.osa_eq, refuse_eq]
  refine wpAny_bind (wpAny_bind (J.type.at (wpAny_bind (L1.at ?_))))
  rw [hm.pass]
  refine wpAny_pure (wpAny_bind (J.type.at (wpAny_bind ((W.looks_findIn X ha).at (wpAny_bind (L2.at ?_))))))
  show wpAny _ _ (storeInOwnDict (.ref e) (.ref C) (.str nm tk) nm v false) _ _ _
  obtain ⟨c1, c2, c3, c4, c5, c6, c7, c8, c9, c10, c11⟩ := cd
  dsimp only at hh
  subst hh
  unfold storeInOwnDict ownDictForStores
  repeat (first | with_reducible refine PySem.OEX.store_in_old hns hw hz ?_ | with_reducible refine wpAny_loadPart_at he ?_ | with_reducible refine L4.at ?_ | wp_step)
  exact fun h1 t1 hn hs => hq h1 t1 (fun b o hb ho => (hs.2 b hb).trans ho) hn
end
/-! ### making such an error: the built-in __new__ that it inherits, then its own __init__ -/
structure NewOk (newId : String) (bm : List Value) : Prop where
  ex : ∃ (Bn initn : String) (bn : List Value), ExcBaseFacts Bn newId initn bn ∧ bm.contains (.type Bn) = true ∧ bm.contains (.type "AttributeError") = false ∧ bm.contains (.type "NameError") = false
structure InitOk (B : String) (bm : List Value) : Prop where
  plain : plainId (B ++ ".__init__") = true
  entry : entryFor table (B ++ ".__init__") = some Builtin.«BaseException.__init__»
  kind : builtinKind (B ++ ".__init__") = some .slot
  split : splitId (B ++ ".__init__") = some (B, "__init__")
  row : Manifest.signature? (B ++ ".__init__") = some ⟨.positional, "*", B, .self, [⟨"args", .varPos, false⟩]⟩
  star : (B != "*") = true
  has : bm.contains (.type B) = true
section
variable {prog : Program} {w : World} {A : Around} {E : Value → Shared → Prop} {R : Result → Shared → Prop} {hp : Heap} {ga : Array GenState} {dw : Drawn} {tn : Nat} {os : OsState}
variable {n1 n2 : Str} {C N : Addr} {b1 bm : List Value} {hd : Bool} {s1 : List Str} {s2 : List Value} {ab : Bool} {co : Option Bool} {d1 : Option Addr} {k0 k1 k2 k3 k5 : Option Value} {B newId : String}
theorem init_any (I : InitOk B bm) {e t0 : Addr} {more : List Value} (hC : hp.get? C = some (excClassObj n1 n2 C N b1 bm hd s1 s2 ab co d1 k0 k1 k2 k3 k5 newId)) (he : hp.get? e = some (excO C t0)) (hl : more.length ≤ sizeLine)
    (hq : ∀ h2 t2, (∀ b o, b ≠ e → hp.get? b = some o → h2.get? b = some o) → h2.get? e = some (excO C t2) → R (.ok (.ret .none)) ⟨h2, ga, dw, tn, os⟩) :
    codeAny (model prog w) A (.call (.builtin (B ++ ".__init__")) ⟨.ref e :: more, []⟩) R ⟨hp, ga, dw, tn, os⟩ := by
  have hin : (Value.ref C :: bm).contains (.type B) = true := by
    rw [List.contains_cons, I.has, Bool.or_true]
  have hst := I.star
  refine codeAny_call_builtin I.plain I.entry ?_
  have chk : ∀ {Q : Unit → Shared → Prop} {E : Value → Shared → Prop} {A : Around}, Q () ⟨hp, ga, dw, tn, os⟩ → wpAny (model prog w) A (checkBuiltinCall (B ++ ".__init__") ⟨.ref e :: more, []⟩) Q E ⟨hp, ga, dw, tn, os⟩ := fun {Q E A} q => by
    simp only [checkBuiltinCall, I.kind, I.split, I.row]
    repeat (first | (with_reducible refine wpAny_loadPart_at he ?_) | with_reducible refine wpAny_loadPart_at hC ?_ | (with_reducible refine wpAny_isSubtype_exc hC ?_; rw [hin]) | wp_step)
    refine wpAny_onRaise ?_
    rw [show ∀ (x y : String) (n : Nat), Bind.check ⟨.positional, "*", B, .self, [⟨"args", .varPos, false⟩]⟩ x y n (List.map (fun z => z.fst) ({ pos := Value.ref e :: more } : Args).kw) = pure () from
      fun _ _ _ => check_star_args _ _ _ _ _ _]
    exact wpAny_pure q
  refine chk ?_
  wp_walk
  refine hq _ hp.objs.size (fun b o hb ho => ?_) ?_
  · exact (Heap.get?_update_other _ _ (Ne.symm hb)).trans (Heap.get?_push_of_some _ ho)
  · exact Heap.get?_update_self _ (Heap.get?_push_of_some _ he) rfl
theorem new_any (Nw : NewOk newId bm) {more : List Value} (hC : hp.get? C = some (excClassObj n1 n2 C N b1 bm hd s1 s2 ab co d1 k0 k1 k2 k3 k5 newId)) (hl : more.length ≤ sizeLine)
    (hq : R (.ok (.ret (.ref (hp.objs.size + 1)))) ⟨(hp.push { cls := .type "tuple", data := .seq more.toArray }).push { cls := .ref C, data := .fields #[.ref hp.objs.size, .none, .none, .none, .bool false, .none] }, ga, dw, tn, os⟩) :
    codeAny (model prog w) A (.builtin newId ⟨.ref C :: more, []⟩) R ⟨hp, ga, dw, tn, os⟩ := by
  obtain ⟨Bn, initn, bn, FB, c1, c2, c3⟩ := Nw.ex
  have e0 := FB.ends
  have e1 : (Value.ref C :: bm).contains (.type Bn) = true := by
    rw [List.contains_cons, c1, Bool.or_true]
  have e2 : (Value.ref C :: bm).contains (.type "AttributeError") = false := by
    rw [List.contains_cons, c2]
    rfl
  have e3 : (Value.ref C :: bm).contains (.type "NameError") = false := by
    rw [List.contains_cons, c3]
    rfl
  refine codeAny_builtinAt FB.entry ?_
  unfold Builtin.«BaseException.__new__»
  refine wpAt_bind ?_
  show wpAt _ _ _ (stack >>= _) _ _ _
  refine wpAt_bind (wpAt_stack fun p below => wpAt_of_wpAny ?_)
  wp_walk
  refine wpAt_of_wpAny ?_
  rw [FB.owner]
  repeat (first | with_reducible refine wpAny_madeHere_exc FB.canon hC ?_ | with_reducible refine wpAny_loadPart_at hC ?_ | (with_reducible refine wpAny_isSubtype_exc hC ?_; first | rw [e1] | rw [e2] | rw [e3]) | wp_step)
  show R _ _
  rw [Heap.size_push]
  exact hq
theorem check_any (Nw : NewOk newId bm) {M : Model} {more : List Value} {Q : Unit → Shared → Prop} (hC : hp.get? C = some (excClassObj n1 n2 C N b1 bm hd s1 s2 ab co d1 k0 k1 k2 k3 k5 newId)) (q : Q () ⟨hp, ga, dw, tn, os⟩) :
    wpAny M A (checkBuiltinCall newId ⟨.ref C :: more, []⟩) Q E ⟨hp, ga, dw, tn, os⟩ := by
  obtain ⟨Bn, initn, bn, FB, c1, c2, c3⟩ := Nw.ex
  have e1 : (Value.ref C :: bm).contains (.type Bn) = true := by
    rw [List.contains_cons, c1, Bool.or_true]
  have e0 := FB.noStar
  simp only [checkBuiltinCall, FB.newKind, FB.newSplit, FB.newRow]
  repeat (first | refine wpAny_loadPart_at hC ?_ | (refine wpAny_isSubtype_exc hC ?_; rw [e1]) | refine wpAny_staticBase_exc hC ?_ | refine wpAny_madeBy_exc hC ?_ | simp only [bne_self_eq_false, Bool.false_eq_true, if_false] | wp_step)
  exact q
theorem typeCall_any (Nw : NewOk newId bm) {more : List Value} {fI : Addr} {Q : Fin → Shared → Prop} (hC : hp.get? C = some (excClassObj n1 n2 C N b1 bm hd s1 s2 ab co d1 k0 k1 k2 k3 k5 newId))
    (hi : W.Looks (model prog w) hp (typeLookup (.ref C) "__init__") (some (.ref fI))) (hb : ∀ self, W.Looks (model prog w) hp (bindSpecial (.ref fI) self) (.ref fI, [self])) (hl : more.length ≤ sizeLine)
    (hq : codeAny (model prog w) A (.call (.ref fI) ⟨.ref (hp.objs.size + 1) :: more, []⟩) (fun res z => match res with | .ok (.ret v) => v = .none ∧ Q (.done (.ret (.ref (hp.objs.size + 1)))) z | .ok _ => False | .error er => E er z) ⟨(hp.push (W.kdv_tup more)).push (excO C hp.objs.size), ga, dw, tn, os⟩) :
    wpAny (model prog w) A (Builtin.«type.__call__» ⟨.ref C :: more, []⟩) Q E ⟨hp, ga, dw, tn, os⟩ := by
  obtain ⟨Bn, initn, bn, FB, _, _, _⟩ := id Nw.ex
  repeat (first | with_reducible refine wpAny_loadPart_at hC ?_ | with_reducible refine wpAny_madeBy_exc hC ?_ | wp_step)
  refine codeAny_call_builtin_code (Code.quiet_builtin _ FB.quiet) (check_any Nw hC ?_)
  refine new_any Nw hC hl ?_
  show wpAny _ _ _ _ _ _
  have up : ∀ b o, hp.get? b = some o → ((hp.push (W.kdv_tup more)).push (excO C hp.objs.size)).get? b = some o := fun b o z => Heap.get?_push_of_some _ (Heap.get?_push_of_some _ z)
  have hC2 := up _ _ hC
  have hE : ((hp.push (W.kdv_tup more)).push (excO C hp.objs.size)).get? (hp.objs.size + 1) = some (excO C hp.objs.size) := by heap_get
  have self_in : (Value.ref C :: bm).contains (.ref C) = true := by simp
  have l1 := hi.keeps up
  have l2 := (hb (.ref (hp.objs.size + 1))).keeps up
  unfold isInstance
  repeat (first | with_reducible refine wpAny_loadPart_at hE ?_ | (with_reducible refine wpAny_isSubtype_exc hC2 ?_; rw [self_in]) | wp_step)
  show wpAny _ _ (typeLookup (.ref C) _) _ _ _
  refine l1.at (wpAny_holding (wpAny_bind (l2.at ?_)))
  refine wpAny_bind (wpAny_call (codeAny_mono hq fun res z q => ?_))
  rcases res with er | (v | _ | _ | _) <;> first | exact q | exact q.elim | skip
  obtain ⟨rfl, q⟩ := q
  first
    | exact wpAny_pure (wpAny_pure q)
    | (wp_walk; exact q)
theorem call_any (Nw : NewOk newId bm) {more : List Value} {fI : Addr} (hC : hp.get? C = some (excClassObj n1 n2 C N b1 bm hd s1 s2 ab co d1 k0 k1 k2 k3 k5 newId))
    (hi : W.Looks (model prog w) hp (typeLookup (.ref C) "__init__") (some (.ref fI))) (hb : ∀ self, W.Looks (model prog w) hp (bindSpecial (.ref fI) self) (.ref fI, [self])) (hl : more.length ≤ sizeLine)
    (hq : codeAny (model prog w) (A.under (.builtin "type.__call__" ⟨.ref C :: more, []⟩)) (.call (.ref fI) ⟨.ref (hp.objs.size + 1) :: more, []⟩) (W.InitBack (hp.objs.size + 1) R) ⟨(hp.push (W.kdv_tup more)).push (excO C hp.objs.size), ga, dw, tn, os⟩) :
    codeAny (model prog w) A (.call (.ref C) ⟨more, []⟩) R ⟨hp, ga, dw, tn, os⟩ := by
  have g1 := tc_lookup
  have g2 := tc_bind (.ref C)
  have hty : (⟨hp, ga, dw, tn, os⟩ : Shared).TypeIs (.ref C) "type" := ⟨_, hC, rfl⟩
  refine codeAny_of_tree ?_
  show wpAny _ _ (callAny (.ref C) _) _ _ _
  repeat (any_goals (first | assumption | with_reducible refine wpAny_loadPart_at hC ?_ | wp_step))
  refine ⟨rfl, codeAny_call_builtin_at (Code.quiet_builtin _ (by decide +kernel)) entry_typeCall (wpAny_check_type_call_sub hC (typeCall_any Nw hC hi hb hl (codeAny_mono hq fun res z q => ?_)))⟩
  rcases res with er | (v | _ | _ | _) <;> exact q
end
end Oxb
end PySem
namespace Thr
open PySem PySem.Spec PyProof.Rows L2
/-! ### an own error straight over a built-in one (B), whose __init__ is walked as a def -/
structure OxC (K : PySem.W.Frag) (C : Addr) (B : String) : Prop where
  cls : ∃ nm q N bs bm sn sub ab col dd k0 k1 k2 k3 k5 newId, K.lookup C = some (excClassObj nm q C N bs bm true sn sub ab col dd k0 k1 k2 k3 k5 newId) ∧ PySem.Oxb.NewOk newId bm ∧ PySem.Oxb.InitOk B bm ∧ PySem.Oxb.MroOk (.ref C :: bm)
  sa : PySem.W.findIn K (.ref C) "__setattr__" = some (some (.builtin "object.__setattr__"))
  exC : PySem.W.subIn K (.ref C) (.type "BaseException") = some true
  tyC : PySem.W.typeIn K (.ref C) = some (.type "type")
  kC : PySem.W.keepIn K (.ref C) = true
section
variable {X : Cx} {pins : List (Addr × Obj)} {σ : L2.St} {H : Hp} {s : Shared} {a C dx : Addr} {f : Str} {y : V} {u : Value} {fs : List (Str × V)} {Q : Unit → Shared → Prop} {E : Value → Shared → Prop} {A : Around} {B : String}
theorem ox_first (T : OxC X.K C B) (I : Inv X pins σ H s) (e : H a = some (exo a C none)) (hno : PySem.W.findIn X.K (.ref C) f = some none) (ry : RelV y u)
    (h : ∀ dx s1, H dx = none → dx ≠ a → Inv X pins σ (upd (upd H dx (exd dx [(f, y)])) a (exo a C (some dx))) s1 → Q () s1) : wpAny (model X.prog X.w) A (setAttr (.ref a) f u) Q E s := by
  obtain ⟨nm, q, N, bs, bm, sn, sub, ab, col, dd, k0, k1, k2, k3, k5, newId, hC, _, _, hm⟩ := T.cls
  have hcl : ∃ cd, PySem.W.clsIn X.K C = some cd ∧ cd.mro = .ref C :: bm ∧ cd.hasDict = true := by
    unfold PySem.W.clsIn
    rw [hC]
    exact ⟨_, rfl, rfl, rfl⟩
  obtain ⟨cd, hcd, em, ehd⟩ := hcl
  obtain ⟨t1, ho⟩ := exo_at I.hok e
  obtain ⟨h0, gs, dr, tn, os⟩ := s
  refine PySem.W.set_plain I.kIn (ox := { cls := .ref C, dict := none, data := .fields #[.ref t1, .none, .none, .none, .bool false, .none] }) (od := none) ⟨ho, rfl, rfl, trivial⟩ T.sa ?_
  refine PySem.Oxb.store_first I.kIn ho hcd (em ▸ hm) ehd hno (fun h1 t2 dx kp hbig hne hx hn => ?_)
  have fresh : H dx = none := I.hok.fresh hbig
  have offD : ∀ {b : Addr} {o : Obj}, h0.get? b = some o → b ≠ dx := fun z => Nat.ne_of_lt (Nat.lt_of_lt_of_le (Heap.lt_size z) hbig)
  have offA : ∀ {b : Addr}, H b = none → b ≠ a := fun {b} z1 z2 => by
    rw [z2, e] at z1
    cases z1
  have U : Un X.fs [] H (upd (upd H dx (exd dx [(f, y)])) a (exo a C (some dx))) h0 h1 :=
    ⟨fun b o z n _ _ => kp b o (offA n) z, fun b o z n _ _ => ⟨o.slots, kp b o (offA n) z⟩, fun b o z n _ => by rw [upd_ne (offA n), upd_ne (offD z)]; exact n,
      fun b o z _ => by
        by_cases hb : b = a
        · exact ⟨_, hb ▸ hx⟩
        · exact ⟨o, kp b o hb z⟩,
      fun b xs z => by rw [upd_ne (at_ne e z exo_tup), upd_ne (ne_of_none z fresh)]; exact z,
      fun b o v z => by rw [upd_ne (at_ne e z exo_frz), upd_ne (ne_of_none z fresh)]; exact z,
      fun b ps z => ⟨#[], by rw [upd_ne (at_ne e z exo_tbl), upd_ne (ne_of_none z fresh), z]; simp⟩⟩
  refine h dx _ fresh hne (I.un (t' := t2) U fun b o z => ?_)
  by_cases hb : b = a
  · subst hb
    rw [upd_same] at z
    cases z
    exact exo_ok hx
  rw [upd_ne hb] at z
  by_cases hd : b = dx
  · subst hd
    rw [upd_same] at z
    cases z
    exact exd_ok hn (relO_put (fs := []) ry fun _ => True.intro)
  rw [upd_ne hd] at z
  refine (I.hok b o z).stay (fun c v hc z2 => kp c v (fun z3 => ?_) z2) (fun c hc => by rw [upd_ne (at_ne e hc exo_own), upd_ne (ne_of_none hc fresh)]; exact hc) (fun c xs hc => by rw [upd_ne (at_ne e hc exo_tup), upd_ne (ne_of_none hc fresh)]; exact hc)
  rcases hc with hc | hc
  · exact hb (hc.symm.trans z3)
  · exact at_ne e hc exo_own z3
theorem ox_more (T : OxC X.K C B) (I : Inv X pins σ H s) (e : H a = some (exo a C (some dx))) (ed : H dx = some (exd dx fs)) (hl : fs.length ≤ 900) (hno : PySem.W.findIn X.K (.ref C) f = some none) (ry : RelV y u)
    (h : ∀ s1, Inv X pins σ (upd H dx (exd dx ((f, y) :: fs))) s1 → Q () s1) : wpAny (model X.prog X.w) A (setAttr (.ref a) f u) Q E s := by
  obtain ⟨nm, q, N, bs, bm, sn, sub, ab, col, dd, k0, k1, k2, k3, k5, newId, hC, _, _, hm⟩ := T.cls
  have hcl : ∃ cd, PySem.W.clsIn X.K C = some cd ∧ cd.mro = .ref C :: bm ∧ cd.hasDict = true := by
    unfold PySem.W.clsIn
    rw [hC]
    exact ⟨_, rfl, rfl, rfl⟩
  obtain ⟨cd, hcd, em, ehd⟩ := hcl
  obtain ⟨t1, ho⟩ := exo_at I.hok e
  obtain ⟨mA, hns, rel⟩ := exd_at I.hok ed
  have hw := within_of rel
  obtain ⟨h0, gs, dr, tn, os⟩ := s
  obtain ⟨oD, _, _, hoD, _, _⟩ := hns.count hw
  refine PySem.W.set_plain I.kIn (ox := { cls := .ref C, dict := some dx, data := .fields #[.ref t1, .none, .none, .none, .bool false, .none] }) (od := some oD) ⟨ho, rfl, rfl, hoD⟩ T.sa ?_
  refine PySem.Oxb.store_more I.kIn ho hns hw (by rw [List.length_map]; omega) hcd (em ▸ hm) ehd hno (fun h1 t2 kp hn => ?_)
  obtain ⟨o2, _, _, e2, _⟩ := id hn
  exact h _ (I.write (t' := t2) (x := dx) (e := dx) (o := exd dx ((f, y) :: fs)) (by rw [ed]; exact True.intro) (.inl rfl) kp ⟨o2, e2⟩ (exd_ok hn (relO_put ry rel)))
theorem ox_init {us : List Value} {Q : Value → Shared → Prop} (T : OxC X.K C B) (I : Inv X pins σ H s) (e : H a = some (exo a C none)) (hl : us.length ≤ sizeLine) (h : ∀ s1, Inv X pins σ H s1 → Q .none s1) :
    wpAny (model X.prog X.w) A (call (.builtin (B ++ ".__init__")) (.ref a :: us)) Q E s := by
  obtain ⟨nm, q, N, bs, bm, sn, sub, ab, col, dd, k0, k1, k2, k3, k5, newId, hC, _, FB, _⟩ := T.cls
  obtain ⟨t1, ho⟩ := exo_at I.hok e
  obtain ⟨h0, gs, dr, tn, os⟩ := s
  refine wpAny_call (PySem.Oxb.init_any FB (I.kIn _ _ hC) ho hl fun h1 t2 kp hx => ?_)
  have J := I.write (t' := tn) (x := a) (e := a) (o := exo a C none) (by rw [e]; exact True.intro) (.inl rfl) kp ⟨_, hx⟩ (exo_ok hx)
  have same : upd H a (exo a C none) = H := funext fun b => by
    by_cases hb : b = a
    · rw [hb, upd_same, e]
    · rw [upd_ne hb]
  rw [same] at J
  exact h _ J
end
/-- B.__init__(self, ..) -/
def tBI (K : PySem.W.Frag) (B : String) (ta : TA) : TE := fun σ H Q => ta σ H fun vs H1 => ∃ (a C : Addr) (ws : List V), vs = .ref a :: ws ∧ ws.length ≤ 1000 ∧ OxC K C B ∧ H1 a = some (exo a C none) ∧ Q .non H1
/-- self.f = e -/
def tOxs (K : PySem.W.Frag) (f : Str) (to te : TE) : TS := fun D σ H => te σ H fun y H1 => to σ H1 fun x H2 => ∃ (a C : Addr) (B : String), x = .ref a ∧ OxC K C B ∧ PySem.W.findIn K (.ref C) f = some none ∧
  ((H2 a = some (exo a C none) ∧ ∀ dx, H2 dx = none → dx ≠ a → D.nx σ (upd (upd H2 dx (exd dx [(f, y)])) a (exo a C (some dx)))) ∨
    ∃ (dx : Addr) (fs : List (Str × V)), H2 a = some (exo a C (some dx)) ∧ H2 dx = some (exd dx fs) ∧ fs.length ≤ 900 ∧ D.nx σ (upd H2 dx (exd dx ((f, y) :: fs))))
section
variable {X : Cx} {o e : Expr} {es : List Expr} {to te : TE} {ta : TA} {f : Str} {p p' p1 p2 pos : Pos} {B : String}
/-- B's own facts: the name, its type, its __init__ -/
structure BInit (K : PySem.W.Frag) (B : String) : Prop where
  boot : bootBuiltins (Str.ofString B) = some (.type B)
  ty : typeOf (.type B) = pure (.type "type")
  stub : Manifest.isStub B = false
  fnd : PySem.W.findCls K (.type B) (.type "type") "__init__" = some (.val (.builtin (B ++ ".__init__")))
  out : PySem.W.handedIn (.builtin (B ++ ".__init__")) = true
  nn : Str.ofString B ≠ "__name__"
  nd : (Str.ofString B == ("__debug__" : Str)) = false
theorem pe_binit {pl : Sem Bool} (b : BInit X.K B) (hg : Gl X (Str.ofString B)) (hm : X.mg (Str.ofString B) = none) (ha : PA X (e :: es) ta)
    (hc : eval (.Call (.Attribute (.Name (Str.ofString B) p1) "__init__" p2) (e :: es) [] pos) X.env = (do
      let ov ← eval (.Name (Str.ofString B) p1) X.env
      standAt p2.atName
      let (fn, first) ← holding [ov] (getMethod ov "__init__" pl)
      callWith pos fn first (backTo pos (starEach (e :: es) X.env)) (backToKw pos (keywordEach [] X.env))) := by rfl)
    (he : starEach (e :: es) X.env = (false, eval e X.env) :: starEach es X.env := by rfl) (hpl : (backTo pos (starEach es X.env)).any (·.1) = false := by rfl) :
    PE X (.Call (.Attribute (.Name (Str.ofString B) p1) "__init__" p2) (e :: es) [] pos) (tBI X.K B ta) := by
  refine ⟨fun pins s σ H Q I rd => ?_⟩
  refine PySem.W.methodCall_KW (ld_blt I hg hm b.boot ?_ b.nn b.nd) hc
  obtain ⟨m, fr⟩ := I.fr
  refine PySem.W.method_type fr I.ok.mod.kin b.ty b.stub b.fnd b.out ?_
  show wpAny _ _ (callWith pos (Value.builtin (B ++ ".__init__")) [] (backTo pos (starEach (e :: es) X.env)) []) _ _ _
  refine PyProof.Rows.callWith_method1 (thn (ha.run pos pins _ σ H _ (I.tok _) rd) fun us s1 ⟨vs, H1, I1, r1, a, C, ws, ev, hl, T, ea, q⟩ => ?_) he hpl
  subst ev
  cases r1 with
  | cons ra rs =>
    cases ra
    exact ox_init T I1 ea (by rw [← Paired.length rs, sizeLine_eq]; omega) fun s2 J => ⟨.non, H1, J, rfl, q⟩
theorem ps_oxs (ho : PE X o to) (he : PE X e te) (hs : swapsWith e (some (.Attribute o f p')) pos.line X.env = pure false := by rfl) : PS X (.Assign [.Attribute o f p'] e pos) (tOxs X.K f to te) := by
  refine ⟨fun pins s σ H D I rd => plainObj_wpAny_Assign_Attribute (thn (he.run pins s σ H _ I rd) fun v s1 ⟨y, H1, I1, r1, q1⟩ => thn (ho.run pins s1 σ H1 _ I1 q1) fun u s2 ⟨z, H2, I2, r2, a, C, B, ez, T, hno, q⟩ => ?_) hs⟩
  subst ez
  cases r2
  rcases q with ⟨ea, q⟩ | ⟨dx, fs, ea, ed, hl, q⟩
  · exact ox_first T I2 ea hno r1 fun dx s3 n ne J => ⟨σ, _, J, q dx n ne⟩
  · exact ox_more T I2 ea ed hl hno r1 fun s3 J => ⟨σ, _, J, q⟩
end
/-- C(e, ..) as a value: tracked from then on -/
def tMkV (C : Addr) (sp : Sp) (ta : TA) : TE := fun σ H Q => ta σ H fun vs H1 => vs.length ≤ 1000 ∧ ∀ a, H1 a = none → sp (.ref a :: vs) (upd H1 a (exo a C none))
  (fun v H2 => v = .non ∧ ∃ (d : Addr) (fs : List (Str × V)), H2 a = some (exo a C (some d)) ∧ H2 d = some (exd d fs) ∧ Q (.ref a) (upd (upd H2 a (exv a C d)) d (.xd fs))) (fun _ _ _ => False)
section
variable {X : Cx} {e : Expr} {es : List Expr} {ta : TA} {p pos : Pos} {B : String} {CX : CXT} {x : Str} {C fI : Addr} {k : Nat} {fd : FuncData} {ps : List Str} {sp : Sp}
/-- the exception that its __init__ has left, as a value -/
theorem inv_value {pins : List (Addr × Obj)} {σ : L2.St} {H : Hp} {s : Shared} {a d : Addr} {fs : List (Str × V)} (I : Inv X pins σ H s) (ea : H a = some (exo a C (some d))) (ed : H d = some (exd d fs)) :
    Inv X pins σ (upd (upd H a (exv a C d)) d (.xd fs)) s := by
  obtain ⟨t1, h1⟩ := exo_at I.hok ea
  obtain ⟨mA, h2, rel⟩ := exd_at I.hok ed
  obtain ⟨od, es', ep', h3, h4, _⟩ := id h2
  have nda : d ≠ a := fun z => by
    rw [z, h1] at h3
    have z2 := Option.some.inj h3
    subst z2
    cases h4
  have I1 := I.write (t' := s.toks) (x := a) (e := a) (o := exv a C d) (h' := s.heap) (by rw [ea]; exact True.intro) (.inl rfl) (fun _ _ _ z => z) ⟨_, h1⟩ (exv_ok h1 rfl rfl rfl)
  have ed1 : (upd H a (exv a C d)) d = some (exd d fs) := by
    rw [upd_ne nda]
    exact ed
  exact I1.write (t' := s.toks) (x := d) (e := d) (o := .xd fs) (h' := s.heap) (by rw [ed1]; exact True.intro) (.inl rfl) (fun _ _ _ z => z) ⟨_, h3⟩ ⟨mA, h2, rel⟩
theorem run_ox {pins : List (Addr × Obj)} {σ : L2.St} {H1 : Hp} {vs : List V} {us : List Value} {hp : Heap} {gs : Array GenState} {dr : Drawn} {tk : Nat} {os : OsState} {Qk : V → Hp → Prop} {G : Value → Shared → Prop} (T : OxC X.K C B) (iC : PySem.W.findIn X.K (.ref C) "__init__" = some (some (.ref fI)))
    (tI : PySem.W.typeIn X.K (.ref fI) = some (.type "function")) (F1 : FnOk X.prog X.w X.K X.mg X.base CX k fI fd ps sp) (hr : Room (k + 1) X.A) (hb : Binds X.K fd ps []) (hx : Passes CX X (fun _ _ _ => False)) (I1 : Inv X pins σ H1 ⟨hp, gs, dr, tk, os⟩) (r1 : Vals vs us) (hz : vs.length ≤ 1000)
    (q1 : sp (.ref (hp.objs.size + 1) :: vs) (upd H1 (hp.objs.size + 1) (exo (hp.objs.size + 1) C none)) Qk (fun _ _ _ => False))
    (fin : ∀ (kk : ∀ b o, hp.get? b = some o → ((hp.push (PySem.W.kdv_tup us)).push (PySem.HandSPX.excO C hp.objs.size)).get? b = some o)
      (I2 : Inv X pins σ (upd H1 (hp.objs.size + 1) (exo (hp.objs.size + 1) C none)) ⟨(hp.push (PySem.W.kdv_tup us)).push (PySem.HandSPX.excO C hp.objs.size), gs, dr, tk, os⟩) (v : V) (u : Value) (H2 : Hp) (s2 : Shared), s2.os = os → AllBare s2.gens →
      Un (frs X.stack) [] (upd H1 (hp.objs.size + 1) (exo (hp.objs.size + 1) C none)) H2 ((hp.push (PySem.W.kdv_tup us)).push (PySem.HandSPX.excO C hp.objs.size)) s2.heap → HOk X.prog X.w H2 s2.heap → RelV v u → Qk v H2 → u = .none ∧ G (.ref (hp.objs.size + 1)) s2) :
    wpAny (model X.prog X.w) X.A (call (.ref C) us) G X.xe ⟨hp, gs, dr, tk, os⟩ := by
  obtain ⟨nm, q, N, bs, bm, sn, sub, ab, col, dd, k0, k1, k2, k3, k5, newId, hC, Nw, _, _⟩ := T.cls
  have kk : ∀ b o, hp.get? b = some o → ((hp.push (PySem.W.kdv_tup us)).push (PySem.HandSPX.excO C hp.objs.size)).get? b = some o := fun b o z => Heap.get?_push_of_some _ (Heap.get?_push_of_some _ z)
  have hE : ((hp.push (PySem.W.kdv_tup us)).push (PySem.HandSPX.excO C hp.objs.size)).get? (hp.objs.size + 1) = some (PySem.HandSPX.excO C hp.objs.size) := by heap_get
  have I2 := I1.laid (t' := tk) (a := hp.objs.size + 1) (o := exo (hp.objs.size + 1) C none) kk (Nat.le_succ _) (exo_ok hE)
  have r2 : Vals (V.ref (hp.objs.size + 1) :: vs) (Value.ref (hp.objs.size + 1) :: us) := .cons rfl r1
  have hl : (Value.ref (hp.objs.size + 1) :: us ++ []).length = ps.length := by
    rw [List.append_nil, ← r2.length]
    exact F1.len _ _ _ _ q1
  have bd := hb _ (Value.ref (hp.objs.size + 1) :: us) I2.kIn hl
  rw [List.append_nil] at bd
  refine wpAny_call (PySem.Oxb.call_any Nw (I1.kIn _ _ hC) (PySem.W.looks_findIn I1.kIn iC) (fun self => PySem.W.bind_fn I1.kIn self tI) (by rw [← Paired.length r1, sizeLine_eq]; omega)
    (codeAny_mono (F1.run _ X.stack _ _ ⟨Value.ref (hp.objs.size + 1) :: us, []⟩ (Value.ref (hp.objs.size + 1) :: us) _ _ (fun _ _ _ => False) (hr.make C us []) (I2.env0.make C us []) bd r2 q1) fun res s2 hq => ?_))
  cases res with
  | error er => exact hx pins σ _ _ er s2 I2 hq
  | ok fl =>
    cases fl with
    | ret u =>
      obtain ⟨v, H2, o2, b2, un2, ok2, rv, qv⟩ := hq
      exact fin kk I2 v u H2 s2 o2 b2 un2 ok2 rv qv
    | next => exact hq.elim
    | brk => exact hq.elim
    | cont => exact hq.elim
/-- raise C(e, ..) -/
theorem pmk_ox (T : OxC X.K C B) (iC : PySem.W.findIn X.K (.ref C) "__init__" = some (some (.ref fI))) (tI : PySem.W.typeIn X.K (.ref fI) = some (.type "function"))
    (F1 : FnOk X.prog X.w X.K X.mg X.base CX k fI fd ps sp) (hr : Room (k + 1) X.A) (hb : Binds X.K fd ps []) (hx : Passes CX X (fun _ _ _ => False)) (hg : Gl X x) (hm : X.mg x = some (.ref C)) (ha : PA X (e :: es) ta)
    (hdb : (x == ("__debug__" : Str)) = false := by decide) (he : starEach (e :: es) X.env = (false, eval e X.env) :: starEach es X.env := by rfl) (hpl : (backTo pos (starEach es X.env)).any (·.1) = false := by rfl) :
    PMk X (.Call (.Name x p) (e :: es) [] pos) (tMkO C sp [] ta) := by
  intro pins s σ H Q I rd
  refine wpAny_Call_Name_kw (ld_glob I hg hm ?_ hdb)
  refine PySem.W.callWith_K (h₀ := X.base) I.ok.mod.kin T.kC (thn (ha.run pos pins s σ H _ I rd) fun us s1 ⟨vs, H1, I1, r1, hz, q1⟩ => ⟨I1.kIn, ?_⟩) he hpl
  show wpAny _ _ (call (.ref C) us) _ _ _
  obtain ⟨hp, gs, dr, tk, os⟩ := s1
  have q2 := q1 (hp.objs.size + 1) (I1.hok.fresh (Nat.le_succ _))
  rw [List.append_nil] at q2
  refine run_ox T iC tI F1 hr hb hx I1 r1 hz q2 (fun kk I2 v u H2 s2 o2 b2 un2 ok2 rv qv => ?_)
  obtain ⟨ev, d, fs, ea, ed, hd1, q3⟩ := qv
  subst ev
  obtain ⟨h2, g2, d2, t2, os2⟩ := s2
  exact ⟨rv, mk_end (raises_own T.exC T.tyC) I1 (Nat.le_succ _) kk un2 ok2 o2 b2 ea ed hd1 q3⟩
theorem pe_mkv (T : OxC X.K C B) (iC : PySem.W.findIn X.K (.ref C) "__init__" = some (some (.ref fI))) (tI : PySem.W.typeIn X.K (.ref fI) = some (.type "function"))
    (F1 : FnOk X.prog X.w X.K X.mg X.base CX k fI fd ps sp) (hr : Room (k + 1) X.A) (hb : Binds X.K fd ps []) (hx : Passes CX X (fun _ _ _ => False)) (hg : Gl X x) (hm : X.mg x = some (.ref C)) (ha : PA X (e :: es) ta)
    (hdb : (x == ("__debug__" : Str)) = false := by decide) (he : starEach (e :: es) X.env = (false, eval e X.env) :: starEach es X.env := by rfl) (hpl : (backTo pos (starEach es X.env)).any (·.1) = false := by rfl) :
    PE X (.Call (.Name x p) (e :: es) [] pos) (tMkV C sp ta) := by
  refine ⟨fun pins s σ H Q I rd => ?_⟩
  refine wpAny_Call_Name_kw (ld_glob I hg hm ?_ hdb)
  refine PySem.W.callWith_K (h₀ := X.base) I.ok.mod.kin T.kC (thn (ha.run pos pins s σ H _ I rd) fun us s1 ⟨vs, H1, I1, r1, hz, q1⟩ => ⟨I1.kIn, ?_⟩) he hpl
  show wpAny _ _ (call (.ref C) us) _ _ _
  obtain ⟨hp, gs, dr, tk, os⟩ := s1
  have q2 := q1 (hp.objs.size + 1) (I1.hok.fresh (Nat.le_succ _))
  refine run_ox T iC tI F1 hr hb hx I1 r1 hz q2 (fun kk I2 v u H2 s2 o2 b2 un2 ok2 rv qv => ?_)
  obtain ⟨ev, d, fs, ea, ed, q3⟩ := qv
  subst ev
  exact ⟨rv, .ref (hp.objs.size + 1), _, inv_value (I2.call' (ch := []) o2 un2 ok2 b2 (fun _ z => nomatch z)) ea ed, rfl, q3⟩
end
/-! ### the built-in errors that own ones stand under -/
section
open PySem.Oxb
theorem cont_obj {C : Addr} {l : List Value} (h : l.contains (.type "object") = true) : (Value.ref C :: l).contains (.type "object") = true := by
  rw [List.contains_cons, h, Bool.or_true]
theorem new_VE : NewOk "ValueError.__new__" [.type "ValueError", .type "Exception", .type "BaseException", .type "object"] := ⟨_, _, _, PySem.F.excBase_ValueError, by decide +kernel, by decide +kernel, by decide +kernel⟩
theorem init_VE : InitOk "ValueError" [.type "ValueError", .type "Exception", .type "BaseException", .type "object"] :=
  ⟨PySem.F.excBase_ValueError.init.plain, PySem.F.excBase_ValueError.initEntry, PySem.F.excBase_ValueError.initKind, PySem.F.excBase_ValueError.initSplit, PySem.F.excBase_ValueError.initRow, PySem.F.excBase_ValueError.noStar, by decide +kernel⟩
theorem mro_VE (C : Addr) : MroOk (.ref C :: [.type "ValueError", .type "Exception", .type "BaseException", .type "object"]) :=
  ⟨fun self => by rw [refuseLoop_ref]; exact PySem.F.store_ValueError.passes self, cont_obj (by decide +kernel), rfl⟩
theorem new_KE : NewOk "LookupError.__new__" [.type "KeyError", .type "LookupError", .type "Exception", .type "BaseException", .type "object"] := ⟨_, _, _, PySem.F.excBase_LookupError, by decide +kernel, by decide +kernel, by decide +kernel⟩
theorem init_KE : InitOk "KeyError" [.type "KeyError", .type "LookupError", .type "Exception", .type "BaseException", .type "object"] where
  plain := by decide +kernel
  entry := entryFor_alias (id' := "BaseException.__init__") (by rw [fastTable_eq_tree]; kernel_rfl)
    (by first | rfl | decide +kernel) (by decide +kernel) (by rw [fastTable_eq_tree]; kernel_rfl)
  kind := by kernel_rfl
  split := by kernel_rfl
  row := by kernel_rfl
  star := by decide +kernel
  has := by decide +kernel
theorem mro_KE (C : Addr) : MroOk (.ref C :: [.type "KeyError", .type "LookupError", .type "Exception", .type "BaseException", .type "object"]) :=
  ⟨fun self => by rw [refuseLoop_ref]; kernel_rfl, cont_obj (by decide +kernel), rfl⟩
end
/-! ### further built-in errors that own ones stand under -/
section
open PySem.Oxb
theorem new_LE : NewOk "LookupError.__new__" [.type "LookupError", .type "Exception", .type "BaseException", .type "object"] := ⟨_, _, _, PySem.F.excBase_LookupError, by decide +kernel, by decide +kernel, by decide +kernel⟩
theorem init_LE : InitOk "LookupError" [.type "LookupError", .type "Exception", .type "BaseException", .type "object"] :=
  ⟨PySem.F.excBase_LookupError.init.plain, PySem.F.excBase_LookupError.initEntry, PySem.F.excBase_LookupError.initKind, PySem.F.excBase_LookupError.initSplit, PySem.F.excBase_LookupError.initRow, PySem.F.excBase_LookupError.noStar, by decide +kernel⟩
theorem mro_LE (C : Addr) : MroOk (.ref C :: [.type "LookupError", .type "Exception", .type "BaseException", .type "object"]) :=
  ⟨fun self => by rw [refuseLoop_ref]; kernel_rfl, cont_obj (by decide +kernel), rfl⟩
theorem new_IE : NewOk "IndexError.__new__" [.type "IndexError", .type "LookupError", .type "Exception", .type "BaseException", .type "object"] := ⟨_, _, _, PySem.F.excBase_IndexError, by decide +kernel, by decide +kernel, by decide +kernel⟩
theorem init_IE : InitOk "IndexError" [.type "IndexError", .type "LookupError", .type "Exception", .type "BaseException", .type "object"] :=
  ⟨PySem.F.excBase_IndexError.init.plain, PySem.F.excBase_IndexError.initEntry, PySem.F.excBase_IndexError.initKind, PySem.F.excBase_IndexError.initSplit, PySem.F.excBase_IndexError.initRow, PySem.F.excBase_IndexError.noStar, by decide +kernel⟩
theorem mro_IE (C : Addr) : MroOk (.ref C :: [.type "IndexError", .type "LookupError", .type "Exception", .type "BaseException", .type "object"]) :=
  ⟨fun self => by rw [refuseLoop_ref]; kernel_rfl, cont_obj (by decide +kernel), rfl⟩
theorem new_RE : NewOk "RuntimeError.__new__" [.type "RuntimeError", .type "Exception", .type "BaseException", .type "object"] := ⟨_, _, _, PySem.F.excBase_RuntimeError, by decide +kernel, by decide +kernel, by decide +kernel⟩
theorem init_RE : InitOk "RuntimeError" [.type "RuntimeError", .type "Exception", .type "BaseException", .type "object"] :=
  ⟨PySem.F.excBase_RuntimeError.init.plain, PySem.F.excBase_RuntimeError.initEntry, PySem.F.excBase_RuntimeError.initKind, PySem.F.excBase_RuntimeError.initSplit, PySem.F.excBase_RuntimeError.initRow, PySem.F.excBase_RuntimeError.noStar, by decide +kernel⟩
theorem mro_RE (C : Addr) : MroOk (.ref C :: [.type "RuntimeError", .type "Exception", .type "BaseException", .type "object"]) :=
  ⟨fun self => by rw [refuseLoop_ref]; kernel_rfl, cont_obj (by decide +kernel), rfl⟩
theorem new_AE : NewOk "ArithmeticError.__new__" [.type "ArithmeticError", .type "Exception", .type "BaseException", .type "object"] := ⟨_, _, _, PySem.F.excBase_ArithmeticError, by decide +kernel, by decide +kernel, by decide +kernel⟩
theorem init_AE : InitOk "ArithmeticError" [.type "ArithmeticError", .type "Exception", .type "BaseException", .type "object"] :=
  ⟨PySem.F.excBase_ArithmeticError.init.plain, PySem.F.excBase_ArithmeticError.initEntry, PySem.F.excBase_ArithmeticError.initKind, PySem.F.excBase_ArithmeticError.initSplit, PySem.F.excBase_ArithmeticError.initRow, PySem.F.excBase_ArithmeticError.noStar, by decide +kernel⟩
theorem mro_AE (C : Addr) : MroOk (.ref C :: [.type "ArithmeticError", .type "Exception", .type "BaseException", .type "object"]) :=
  ⟨fun self => by rw [refuseLoop_ref]; kernel_rfl, cont_obj (by decide +kernel), rfl⟩
theorem new_OE : NewOk "OverflowError.__new__" [.type "OverflowError", .type "ArithmeticError", .type "Exception", .type "BaseException", .type "object"] := ⟨_, _, _, PySem.F.excBase_OverflowError, by decide +kernel, by decide +kernel, by decide +kernel⟩
theorem init_OE : InitOk "OverflowError" [.type "OverflowError", .type "ArithmeticError", .type "Exception", .type "BaseException", .type "object"] :=
  ⟨PySem.F.excBase_OverflowError.init.plain, PySem.F.excBase_OverflowError.initEntry, PySem.F.excBase_OverflowError.initKind, PySem.F.excBase_OverflowError.initSplit, PySem.F.excBase_OverflowError.initRow, PySem.F.excBase_OverflowError.noStar, by decide +kernel⟩
theorem mro_OE (C : Addr) : MroOk (.ref C :: [.type "OverflowError", .type "ArithmeticError", .type "Exception", .type "BaseException", .type "object"]) :=
  ⟨fun self => by rw [refuseLoop_ref]; kernel_rfl, cont_obj (by decide +kernel), rfl⟩
end
end Thr
namespace PySem
namespace Oxb
open PySem.W PySem.Calls PyProof.Rows PySem.HandSPX
section
variable {prog : Program} {w : World} {A : Around} {E : Value → Shared → Prop} {R : Result → Shared → Prop} {hp : Heap} {ga : Array GenState} {dw : Drawn} {tn : Nat} {os : OsState}
variable {n1 n2 : Str} {C N : Addr} {b1 bm : List Value} {hd : Bool} {s1 : List Str} {s2 : List Value} {ab : Bool} {co : Option Bool} {d1 : Option Addr} {k0 k1 k2 k3 k5 : Option Value} {B newId : String}
theorem new_kw (Nw : NewOk newId bm) {more : List Value} {kw : List (Str × Value)} (hC : hp.get? C = some (excClassObj n1 n2 C N b1 bm hd s1 s2 ab co d1 k0 k1 k2 k3 k5 newId)) (hl : more.length ≤ sizeLine)
    (hq : R (.ok (.ret (.ref (hp.objs.size + 1)))) ⟨(hp.push { cls := .type "tuple", data := .seq more.toArray }).push { cls := .ref C, data := .fields #[.ref hp.objs.size, .none, .none, .none, .bool false, .none] }, ga, dw, tn, os⟩) :
    codeAny (model prog w) A (.builtin newId ⟨.ref C :: more, kw⟩) R ⟨hp, ga, dw, tn, os⟩ := by
  obtain ⟨Bn, initn, bn, FB, c1, c2, c3⟩ := Nw.ex
  have e0 := FB.ends
  have e1 : (Value.ref C :: bm).contains (.type Bn) = true := by
    rw [List.contains_cons, c1, Bool.or_true]
  have e2 : (Value.ref C :: bm).contains (.type "AttributeError") = false := by
    rw [List.contains_cons, c2]
    rfl
  have e3 : (Value.ref C :: bm).contains (.type "NameError") = false := by
    rw [List.contains_cons, c3]
    rfl
  refine codeAny_builtinAt FB.entry ?_
  unfold Builtin.«BaseException.__new__»
  refine wpAt_bind ?_
  show wpAt _ _ _ (stack >>= _) _ _ _
  refine wpAt_bind (wpAt_stack fun p below => wpAt_of_wpAny ?_)
  wp_walk
  refine wpAt_of_wpAny ?_
  rw [FB.owner]
  repeat (first | with_reducible refine wpAny_madeHere_exc FB.canon hC ?_ | with_reducible refine wpAny_loadPart_at hC ?_ | (with_reducible refine wpAny_isSubtype_exc hC ?_; first | rw [e1] | rw [e2] | rw [e3]) | wp_step)
  show R _ _
  rw [Heap.size_push]
  exact hq
theorem check_kw (Nw : NewOk newId bm) {M : Model} {more : List Value} {kw : List (Str × Value)} {Q : Unit → Shared → Prop} (hC : hp.get? C = some (excClassObj n1 n2 C N b1 bm hd s1 s2 ab co d1 k0 k1 k2 k3 k5 newId)) (q : Q () ⟨hp, ga, dw, tn, os⟩) :
    wpAny M A (checkBuiltinCall newId ⟨.ref C :: more, kw⟩) Q E ⟨hp, ga, dw, tn, os⟩ := by
  obtain ⟨Bn, initn, bn, FB, c1, c2, c3⟩ := Nw.ex
  have e1 : (Value.ref C :: bm).contains (.type Bn) = true := by
    rw [List.contains_cons, c1, Bool.or_true]
  have e0 := FB.noStar
  simp only [checkBuiltinCall, FB.newKind, FB.newSplit, FB.newRow]
  repeat (first | refine wpAny_loadPart_at hC ?_ | (refine wpAny_isSubtype_exc hC ?_; rw [e1]) | refine wpAny_staticBase_exc hC ?_ | refine wpAny_madeBy_exc hC ?_ | simp only [bne_self_eq_false, Bool.false_eq_true, if_false] | wp_step)
  exact q
theorem typeCall_kw (Nw : NewOk newId bm) {more : List Value} {kw : List (Str × Value)} {fI : Addr} {Q : Fin → Shared → Prop} (hC : hp.get? C = some (excClassObj n1 n2 C N b1 bm hd s1 s2 ab co d1 k0 k1 k2 k3 k5 newId))
    (hi : W.Looks (model prog w) hp (typeLookup (.ref C) "__init__") (some (.ref fI))) (hb : ∀ self, W.Looks (model prog w) hp (bindSpecial (.ref fI) self) (.ref fI, [self])) (hl : more.length ≤ sizeLine)
    (hq : codeAny (model prog w) A (.call (.ref fI) ⟨.ref (hp.objs.size + 1) :: more, kw⟩) (fun res z => match res with | .ok (.ret v) => v = .none ∧ Q (.done (.ret (.ref (hp.objs.size + 1)))) z | .ok _ => False | .error er => E er z) ⟨(hp.push (W.kdv_tup more)).push (excO C hp.objs.size), ga, dw, tn, os⟩) :
    wpAny (model prog w) A (Builtin.«type.__call__» ⟨.ref C :: more, kw⟩) Q E ⟨hp, ga, dw, tn, os⟩ := by
  obtain ⟨Bn, initn, bn, FB, _, _, _⟩ := id Nw.ex
  repeat (first | with_reducible refine wpAny_loadPart_at hC ?_ | with_reducible refine wpAny_madeBy_exc hC ?_ | wp_step)
  refine codeAny_call_builtin_code (Code.quiet_builtin _ FB.quiet) (check_kw Nw hC ?_)
  refine new_kw Nw hC hl ?_
  show wpAny _ _ _ _ _ _
  have up : ∀ b o, hp.get? b = some o → ((hp.push (W.kdv_tup more)).push (excO C hp.objs.size)).get? b = some o := fun b o z => Heap.get?_push_of_some _ (Heap.get?_push_of_some _ z)
  have hC2 := up _ _ hC
  have hE : ((hp.push (W.kdv_tup more)).push (excO C hp.objs.size)).get? (hp.objs.size + 1) = some (excO C hp.objs.size) := by heap_get
  have self_in : (Value.ref C :: bm).contains (.ref C) = true := by simp
  have l1 := hi.keeps up
  have l2 := (hb (.ref (hp.objs.size + 1))).keeps up
  unfold isInstance
  repeat (first | with_reducible refine wpAny_loadPart_at hE ?_ | (with_reducible refine wpAny_isSubtype_exc hC2 ?_; rw [self_in]) | wp_step)
  show wpAny _ _ (typeLookup (.ref C) _) _ _ _
  refine l1.at (wpAny_holding (wpAny_bind (l2.at ?_)))
  refine wpAny_bind (wpAny_call (codeAny_mono hq fun res z q => ?_))
  rcases res with er | (v | _ | _ | _) <;> first | exact q | exact q.elim | skip
  obtain ⟨rfl, q⟩ := q
  first
    | exact wpAny_pure (wpAny_pure q)
    | (wp_walk; exact q)
theorem call_kw (Nw : NewOk newId bm) {more : List Value} {kw : List (Str × Value)} {fI : Addr} (hC : hp.get? C = some (excClassObj n1 n2 C N b1 bm hd s1 s2 ab co d1 k0 k1 k2 k3 k5 newId))
    (hi : W.Looks (model prog w) hp (typeLookup (.ref C) "__init__") (some (.ref fI))) (hb : ∀ self, W.Looks (model prog w) hp (bindSpecial (.ref fI) self) (.ref fI, [self])) (hl : more.length ≤ sizeLine)
    (hq : codeAny (model prog w) (A.under (.builtin "type.__call__" ⟨.ref C :: more, kw⟩)) (.call (.ref fI) ⟨.ref (hp.objs.size + 1) :: more, kw⟩) (W.InitBack (hp.objs.size + 1) R) ⟨(hp.push (W.kdv_tup more)).push (excO C hp.objs.size), ga, dw, tn, os⟩) :
    codeAny (model prog w) A (.call (.ref C) ⟨more, kw⟩) R ⟨hp, ga, dw, tn, os⟩ := by
  have g1 := tc_lookup
  have g2 := tc_bind (.ref C)
  have hty : (⟨hp, ga, dw, tn, os⟩ : Shared).TypeIs (.ref C) "type" := ⟨_, hC, rfl⟩
  refine codeAny_of_tree ?_
  show wpAny _ _ (callAny (.ref C) _) _ _ _
  repeat (any_goals (first | assumption | with_reducible refine wpAny_loadPart_at hC ?_ | wp_step))
  refine ⟨rfl, codeAny_call_builtin_at (Code.quiet_builtin _ (by decide +kernel)) entry_typeCall (wpAny_check_type_call_sub hC (typeCall_kw Nw hC hi hb hl (codeAny_mono hq fun res z q => ?_)))⟩
  rcases res with er | (v | _ | _ | _) <;> exact q
end
end Oxb
end PySem
namespace Thr
open PySem PySem.Spec PyProof.Rows L2
/-! ### C(k=e, ..) as a value -/
def tMkVK (C : Addr) (sp : Sp) (gV : List V → List V → List V) (m : Nat) (tk : TA) : TE := fun σ H Q => tk σ H fun zs H1 => zs.length = m ∧ ∀ a, H1 a = none → sp (gV [.ref a] zs) (upd H1 a (exo a C none))
  (fun v H2 => v = .non ∧ ∃ (d : Addr) (fs : List (Str × V)), H2 a = some (exo a C (some d)) ∧ H2 d = some (exd d fs) ∧ Q (.ref a) (upd (upd H2 a (exv a C d)) d (.xd fs))) (fun _ _ _ => False)
section
variable {X : Cx} {kws : List Keyword} {tk : TA} {p pos : Pos} {B : String} {CX : CXT} {x : Str} {C fI : Addr} {k : Nat} {fd : FuncData} {ps ks : List Str} {sp : Sp} {g : List Value → List Value → List Value} {gV : List V → List V → List V}
theorem pe_mkvK (T : OxC X.K C B) (iC : PySem.W.findIn X.K (.ref C) "__init__" = some (some (.ref fI))) (tI : PySem.W.typeIn X.K (.ref fI) = some (.type "function"))
    (F1 : FnOk X.prog X.w X.K X.mg X.base CX k fI fd ps sp) (hr : Room (k + 1) X.A) (hb : KBn X.K fd ps 1 ks g gV) (hx : Passes CX X (fun _ _ _ => False)) (hg : Gl X x) (hm : X.mg x = some (.ref C)) (hkw : PK X kws tk)
    (hall : (backToKw pos (keywordEach kws X.env)).all (·.1.isSome) = true := by rfl) (hks : (backToKw pos (keywordEach kws X.env)).filterMap (·.1) = ks := by rfl) (hdb : (x == ("__debug__" : Str)) = false := by decide)
    (hpl : ((backTo pos (starEach [] X.env)).any (·.1) || (backToKw pos (keywordEach kws X.env)).any (·.1.isNone)) = false := by rfl) :
    PE X (.Call (.Name x p) [] kws pos) (tMkVK C sp gV ks.length tk) := by
  refine ⟨fun pins s σ H Q I rd => wpAny_Call_Name_kw (ld_glob I hg hm ?_ hdb)⟩
  refine PySem.W.callWith_KW0 (h₀ := X.base) I.ok.mod.kin T.kC hall ?_ hpl
  refine thn (hkw.run pos pins s σ H _ I rd) fun ws s1 ⟨zs, H1, I1, rz, l2, q1⟩ => ⟨I1.kIn, ?_⟩
  rw [hks]
  show wpAny _ _ (call (.ref C) [] (ks.zip ws)) _ _ _
  obtain ⟨hp, gs, dr, tk, os⟩ := s1
  have q2 := q1 (hp.objs.size + 1) (I1.hok.fresh (Nat.le_succ _))
  obtain ⟨nm, q, N, bs, bm, sn, sub, ab, col, dd, k0, k1, k2, k3, k5, newId, hC, Nw, _, _⟩ := T.cls
  have kk : ∀ b o, hp.get? b = some o → ((hp.push (PySem.W.kdv_tup [])).push (PySem.HandSPX.excO C hp.objs.size)).get? b = some o := fun b o z => Heap.get?_push_of_some _ (Heap.get?_push_of_some _ z)
  have hE : ((hp.push (PySem.W.kdv_tup [])).push (PySem.HandSPX.excO C hp.objs.size)).get? (hp.objs.size + 1) = some (PySem.HandSPX.excO C hp.objs.size) := by heap_get
  have I2 := I1.laid (t' := tk) (a := hp.objs.size + 1) (o := exo (hp.objs.size + 1) C none) kk (Nat.le_succ _) (exo_ok hE)
  have rs : Vals [V.ref (hp.objs.size + 1)] [Value.ref (hp.objs.size + 1)] := .cons rfl .nil
  have r2 := hb.rel rs rz
  refine wpAny_call (PySem.Oxb.call_kw (more := []) (kw := ks.zip ws) Nw (I1.kIn _ _ hC) (PySem.W.looks_findIn I1.kIn iC) (fun self => PySem.W.bind_fn I1.kIn self tI) (by decide)
    (codeAny_mono (F1.run _ X.stack _ _ ⟨[Value.ref (hp.objs.size + 1)], ks.zip ws⟩ (g [Value.ref (hp.objs.size + 1)] ws) (gV [V.ref (hp.objs.size + 1)] zs) _ (fun _ _ _ => False) (hr.make C [] _) (I2.env0.make C [] _) (hb.to _ _ ws I2.kIn rfl (rz.length.symm.trans l2)) r2 q2) fun res s2 hq => ?_))
  cases res with
  | error er => exact hx pins σ _ _ er s2 I2 hq
  | ok fl =>
    cases fl with
    | ret u =>
      obtain ⟨v, H2, o2, b2, un2, ok2, rv, ev, d, fs, ea, ed, q3⟩ := hq
      subst ev
      exact ⟨rv, .ref (hp.objs.size + 1), _, inv_value (I2.call' (ch := []) o2 un2 ok2 b2 (fun _ z => nomatch z)) ea ed, rfl, q3⟩
    | next => exact hq.elim
    | brk => exact hq.elim
    | cont => exact hq.elim
end
/-! ### defs that make texts of lists and tuples: they run where no such text is under way -/
structure FnG (P : Program) (w : World) (K : PySem.W.Frag) (mg : Str → Option Value) (base : Heap) (k : Nat) (f : Addr) (fd : FuncData) (qs : List Str) (sp : Sp) : Prop where
  size : ∀ xs G R Z, sp xs G R Z → xs.length = qs.length
  goes : ∀ (B : Around) (up : List Env) (t : Shared) (G : Hp) (ar : Args) (ws : List Value) (xs : List V) (R : VK) (Z : XK), B.guards = some [] → Room k B → Env0 P w K mg base B up t G →
    BindsTo t fd ar (qs.zip ws) → Vals xs ws → sp xs G R Z → codeAny (model P w) B (.call (.ref f) ar) (CR CX0 up P w G t R Z) t
section
variable {P : Program} {w : World} {K : PySem.W.Frag} {mg : Str → Option Value} {base : Heap}
theorem fng_of {x qual : Str} {st : Stmt} {f : Addr} {fd : FuncData} {N qs : List Str} {k : Nat} {sp : Sp} (F : L2.Fun K x qual st f fd) (S : FnScope N qs (defScope st)) (size : ∀ xs G R Z, sp xs G R Z → xs.length = qs.length)
    (hb : ∀ (cv : Value) (B : Around) (up : List Env) (t : Shared) (G : Hp) (xs : List V) (R : VK) (Z : XK), (B.deeper (envOfC qual (defScope st) t.heap.objs.size f cv)).guards = some [] → Room k (B.deeper (envOfC qual (defScope st) t.heap.objs.size f cv)) → sp xs G R Z →
      ∃ d, PSs (cxOf CX0 P w K mg base N qual (defScope st) f cv B up t G Z).nox (defBody st) d ∧ d { nx := fun _ G' => R .non G', rt := R } (start N xs) G) : FnG P w K mg base (k + 1) f fd qs sp := by
  obtain ⟨oc, od, kV, doc, pm, an, cv, ct, osl, rfl, at_, co⟩ := F.ex
  refine ⟨size, fun B up t G ar ws xs R Z hg rm e0 bt rel hsp => ?_⟩
  have keepB : ∀ b o, base.get? b = some o → t.heap.get? b = some o := fun b o e => (e0.bs b o e).1
  have inT : K.In t.heap := e0.mod.kin.keeps keepB
  have noL : t.heap.NoLimit := e0.mod.nolimit.keeps keepB
  have kinds : ∀ y ∈ qs.zip ws, (defScope st).names.lookup y.1 = some .local ∨ ((defScope st).names.lookup y.1 = some .cell ∧ ((cellsFrom (t.heap.objs.size + 1) (defScope st).names []).lookup y.1).isSome = true) := by
    rintro ⟨n, v⟩ hy
    rcases S.par n (List.of_mem_zip hy).1 with z | z
    · exact .inl z
    · exact .inr ⟨z, PySem.W.cellsFrom_some _ _ _ (.inl z)⟩
  refine codeAny_call_function rm.depth (inT _ _ at_) rfl S.co S.gen rfl (PySem.W.codeRec_of inT co) (bt _ _ _ _ ?_)
  refine wpAny_newFunctionEnv_cells S.kind kinds fun en hen t1 y => ?_
  subst hen
  refine ⟨noL.keeps y.toInCall.keep, codeAny_func ?_⟩
  obtain ⟨d, hd, hq⟩ := hb cv B up t G xs R Z hg (rm.deeper _) hsp
  have J0 : Inv (cxOf CX0 P w K mg base N qual (defScope st) f cv B up t G Z) [] (start N xs) G t1 := inv_start S rm.hd e0 (size _ _ _ _ hsp) rel y
  refine wpAny_mono (hd.nox.run [] t1 (start N xs) G _ J0 hq) (fun out t' hs => ?_) fun _ _ hs => hs
  cases out with
  | next =>
    obtain ⟨_, G', J, z⟩ := hs
    exact ⟨.non, G', J.os, J.bare, J.base, J.hok, rfl, z⟩
  | ret u =>
    obtain ⟨v, _, G', J, rv, z⟩ := hs
    exact ⟨v, G', J.os, J.bare, J.base, J.hok, rv, z⟩
  | brk =>
    obtain ⟨_, _, _, z⟩ := hs
    exact z.elim
  | cont =>
    obtain ⟨_, _, _, z⟩ := hs
    exact z.elim
end
/-- such a def under its name -/
structure CalG (P : Program) (w : World) (K : PySem.W.Frag) (mg : Str → Option Value) (base : Heap) (k : Nat) (x : Str) (sp : Sp) : Prop where
  ex : ∃ (f : Addr) (fd : FuncData) (qs : List Str), FnG P w K mg base k f fd qs sp ∧ mg x = some (.ref f) ∧ PySem.W.keepIn K (.ref f) = true ∧ Binds K fd qs []
section
variable {X : Cx} {k j : Nat} {x : Str} {sp : Sp} {p pos : Pos} {e : Expr} {es : List Expr} {t : TA}
theorem pe_cG (c : CalG X.prog X.w X.K X.mg X.base k x sp) (hg : X.A.guards = some []) (hr : Room j X.A) (hk : k ≤ j) (gl : Gl X x) (ha : PA X (e :: es) t) (hdb : (x == ("__debug__" : Str)) = false := by decide)
    (he : starEach (e :: es) X.env = (false, eval e X.env) :: starEach es X.env := by rfl) (hpl : (backTo pos (starEach es X.env)).any (·.1) = false := by rfl) : PE X (.Call (.Name x p) (e :: es) [] pos) (tCall sp [] C8.E0 t) := by
  obtain ⟨f, fd, qs, F, hm, kp, b⟩ := c.ex
  refine ⟨fun pins s σ H Q I h => wpAny_Call_Name_kw (ld_glob I gl hm ?_ hdb)⟩
  refine PySem.W.callWith_K (h₀ := X.base) I.ok.mod.kin kp (thn (ha.run pos pins s σ H _ I h) fun us s1 ⟨vs, H1, I1, r, q⟩ => ⟨I1.kIn, ?_⟩) he hpl
  have q2 : sp vs H1 Q C8.E0 := by
    have q3 : sp (vs ++ []) H1 Q C8.E0 := q
    rw [List.append_nil] at q3
    exact q3
  have hl : us.length = qs.length := by
    rw [← r.length]
    exact F.size _ _ _ _ q2
  have bb := b s1 us I1.kIn (by rw [List.append_nil]; exact hl)
  rw [List.append_nil] at bb
  refine wpAny_call (codeAny_mono (F.goes X.A X.stack s1 H1 ⟨us, []⟩ us vs Q C8.E0 hg (hr.mono hk) I1.env0 bb r q2) fun res s' hq => ?_)
  cases res with
  | error er => exact hq.elim
  | ok fl =>
    cases fl with
    | ret u => exact I1.after hq
    | next => exact hq.elim
    | brk => exact hq.elim
    | cont => exact hq.elim
/-- repr of data -/
def rReprD (K : PySem.W.Frag) : List V → Hp → VK → Prop := fun xs H Q => ∃ (v : V) (d : PyData), xs = [v] ∧ Dp K H v d ∧ d.showable = true ∧ d.hasDict = false ∧ d.depth ≤ 100 ∧ d.shown.length ≤ sizeLine ∧ Q (.str d.shown) H
theorem cr_reprD (hg : X.A.guards = some []) (hr : Room j X.A) : CallR X (.builtin "repr") (rReprD X.K) := by
  intro pins s σ H xs us Q I r h
  obtain ⟨v, d, rfl, hd, hs, hn, hp, hz, q⟩ := h
  cases r with
  | cons r1 rr =>
    cases rr
    have un := hr.un
    cases hd with
    | non =>
      cases (show _ = Value.none from r1)
      exact PySem.P.repr_of_none ⟨.str "None", H, I.tok _, ⟨_, rfl⟩, q⟩
    | bl b =>
      cases (show _ = Value.bool b from r1)
      exact PySem.P.repr_of_bool ⟨.str (PyData.shown (.bool b)), H, I.tok _, ⟨_, by cases b <;> rfl⟩, q⟩
    | int i =>
      obtain ⟨t, rfl⟩ := (show ∃ t, _ = Value.int i t from r1)
      exact PySem.P.repr_of_int (of_decide_eq_true hs) ⟨.str (PyData.shown (.int i)), H, I.tok _, ⟨_, rfl⟩, q⟩
    | str z =>
      obtain ⟨t, rfl⟩ := (show ∃ t, _ = Value.str z t from r1)
      exact PySem.P.repr_of_str ⟨.str (PyData.shown (.str z)), H, I.tok _, ⟨_, rfl⟩, q⟩ hz
    | lst h1 h2 =>
      rename_i a xs ds
      obtain rfl : _ = Value.ref a := r1
      obtain ⟨as, rd⟩ := Dp.reads I (.list ds) (.ref a) (.ref a) (.lst h1 h2) rfl
      exact repr_of_reads' rd hs (PyData.noDict_hsm hn) hg (by omega) (fun _ _ e => e) (fun h' u tk hk => ⟨.str _, H, I.kept (t' := tk) hk, ⟨_, rfl⟩, q⟩) hz
    | tup h1 h2 =>
      rename_i a xs ds
      obtain rfl : _ = Value.ref a := r1
      obtain ⟨as, rd⟩ := Dp.reads I (.tuple ds) (.ref a) (.ref a) (.tup h1 h2) rfl
      exact repr_of_reads' rd hs (PyData.noDict_hsm hn) hg (by omega) (fun _ _ e => e) (fun h' u tk hk => ⟨.str _, H, I.kept (t' := tk) hk, ⟨_, rfl⟩, q⟩) hz
end
/-! ### the end, for a law that makes texts of lists and tuples -/
section
variable {P : Program} {w : World} {K : PySem.W.Frag} {mg mb : Str → Option Value} {k : Nat} {fa a : Addr} {fd : FuncData} {x : Str} {sp : Sp} {s1 : Shared} {us : List Value} {ns : List Int}
/-- from a heap in which the script alone may be tracked -/
theorem end_from {H : Hp} (inK : K.In s1.heap) (nm : s1.heap.Ns mainGlobals mg) (nb : s1.heap.Ns builtinsNs mb) (bb : ∀ y : Str, y ≠ "__name__" → mb y = bootBuiltins y) (lim : s1.heap.NoLimit) (gs : s1.gens = #[])
    (at_ : s1.heap.get? a = some { cls := .type "list", data := .seq us.toArray }) (rm : Room k callerA)
    (F : ∀ base : Heap, K.In base → base.Ns mainGlobals mg → FnG P w K mg base k fa fd [x] sp) (bt : ∀ (s : Shared) (u : Value), BindsTo s fd ⟨[u], []⟩ [(x, u)])
    (hO : Only H) (want : sp [.ref a] H (fun v _ => v = .bl true) fun _ _ _ => False) (hok : HOk P w H s1.heap) (onlyA : ∀ b, H b ≠ none → b = a) (offK : H a ≠ none → K.lookup a = none) :
    codeAny (model P w) callerA (.call (.ref fa) ⟨[.ref a], []⟩) (fun r s' => r = .ok (.ret (.bool true)) ∧ OldK s1.heap s'.heap ∧ s'.os = s1.os ∧ AllBare s'.gens) s1 := by
  have untr : ∀ {b : Addr}, (b = a → False) → H b = none := fun {b} nb => by
    cases z : H b with
    | none => rfl
    | some u => exact (nb (onlyA b (by rw [z]; simp))).elim
  have stay : ∀ {b : Addr} {o : Obj}, s1.heap.get? b = some o → H b = none → (hidT s1.heap H).get? b = some o := fun e n => hidT_get e n
  have names : ∀ {b : Addr} {m : Str → Option Value}, s1.heap.Ns b m → (hidT s1.heap H).Ns b m := fun {b m} ⟨o, es, ep, e, d, r⟩ => ⟨o, es, ep, stay e (untr fun z => by
    subst z
    rw [at_] at e
    cases e
    have d2 : Data.seq us.toArray _ = Data.dict es ep := d
    cases d2), d, r⟩
  have inK2 : K.In (hidT s1.heap H) := fun b o e => stay (inK b o e) (by
    cases z : H b with
    | none => rfl
    | some u =>
      have e2 : b = a := onlyA b (by rw [z]; simp)
      subst e2
      rw [offK (by rw [z]; simp)] at e
      cases e)
  obtain ⟨mc, l1, l2⟩ := lim
  have start0 : Env0 P w K mg (hidT s1.heap H) callerA [] s1 H :=
    ⟨rfl, ⟨inK2, names nm, ⟨mb, names nb, bb⟩, ⟨mc, names l1, l2⟩⟩, fun b o e => of_hidT e, Nat.le_of_eq (hidT_size _ _), trivial, fun b hb => absurd (show b ∈ ([] : List Addr) from hb) (by simp), hok, .of_eq gs⟩
  refine codeAny_mono ((F _ inK2 (names nm)).goes callerA [] s1 H ⟨[.ref a], []⟩ [.ref a] [.ref a] _ _ rfl rm start0 (bt s1 (.ref a)) (.cons rfl .nil) want) fun out t hs => ?_
  cases out with
  | error er => exact hs.elim
  | ok fl =>
    cases fl with
    | ret u =>
      obtain ⟨v, H', os, bare, un, hok2, rv, z⟩ := hs
      have z2 : v = .bl true := z
      subst z2
      obtain rfl : u = Value.bool true := rv
      refine ⟨rfl, OldK.of_keep fun b o e => ?_, os, bare⟩
      cases z : H b with
      | none => exact un.keep b o e z (fun y => absurd (show b ∈ ([] : List Addr) from y) (by simp)) (by simp)
      | some h0 =>
        rcases hO b with y | ⟨ob, xs, y⟩
        · rw [z] at y
          cases y
        · obtain ⟨e1, _⟩ := hok b _ y
          obtain ⟨e2, _⟩ := hok2 b _ (un.frzs b ob _ y)
          rw [e] at e1
          cases e1
          exact e2
    | next => exact hs.elim
    | brk => exact hs.elim
    | cont => exact hs.elim
theorem end_call (inK : K.In s1.heap) (nm : s1.heap.Ns mainGlobals mg) (nb : s1.heap.Ns builtinsNs mb) (bb : ∀ y : Str, y ≠ "__name__" → mb y = bootBuiltins y) (lim : s1.heap.NoLimit) (gs : s1.gens = #[])
    (at_ : s1.heap.get? a = some { cls := .type "list", data := .seq us.toArray }) (hIn : IntsAre us ns) (fits : ns.length ≤ sizeLine) (rm : Room k callerA)
    (F : ∀ base : Heap, K.In base → base.Ns mainGlobals mg → FnG P w K mg base k fa fd [x] sp) (bt : ∀ (s : Shared) (u : Value), BindsTo s fd ⟨[u], []⟩ [(x, u)])
    (want : ∀ H : Hp, Only H → SqL K H a (ns.map V.int) → sp [.ref a] H (fun v _ => v = .bl true) fun _ _ _ => False) :
    codeAny (model P w) callerA (.call (.ref fa) ⟨[.ref a], []⟩) (fun r s' => r = .ok (.ret (.bool true)) ∧ OldK s1.heap s'.heap ∧ s'.os = s1.os ∧ AllBare s'.gens) s1 := by
  have rel := vals_ints hIn
  have len := hIn.length
  cases lk : K.lookup a with
  | some o =>
    have e := inK a o lk
    rw [at_] at e
    cases e
    have only0 : Only (fun _ => none) := fun _ => .inl rfl
    exact end_from (H := fun _ => none) inK nm nb bb lim gs at_ rm F bt only0 (want _ only0 (.inr ⟨_, us.toArray, _, lk, rfl, rfl, rfl, by rw [List.size_toArray, len]; exact fits, by simpa using rel⟩))
      (fun b u z => nomatch (show (none : Option HO) = some u from z)) (fun b z => absurd rfl z) fun z => absurd rfl z
  | none =>
    have pos : ∀ {b : Addr}, b = a → (if b = a then some (HO.frz { cls := .type "list", data := .seq us.toArray } (.lst (ns.map V.int))) else none) = some (.frz { cls := .type "list", data := .seq us.toArray } (.lst (ns.map V.int))) := fun e => if_pos e
    have only1 : Only (fun b => if b = a then some (.frz { cls := .type "list", data := .seq us.toArray } (.lst (ns.map V.int))) else none) := fun b => by
      by_cases e : b = a
      · exact .inr ⟨_, _, pos e⟩
      · exact .inl (if_neg e)
    refine end_from inK nm nb bb lim gs at_ rm F bt only1 (want _ only1 (.inl (.inr ⟨{ cls := .type "list", data := .seq us.toArray }, if_pos rfl⟩))) (fun b u z => ?_) (fun b z => ?_) fun _ => lk
    · by_cases e : b = a
      · have y := (pos e).symm.trans z
        cases y
        subst e
        exact ⟨at_, by rw [List.length_map]; exact fits, us, _, rel, at_⟩
      · have y := (if_neg e).symm.trans z
        cases y
    · by_cases e : b = a
      · exact e
      · exact absurd (if_neg e) z
end
theorem walk_ofG {l : PySem.W.OpenLaw} {n k : Nat} {q : Program} {loose : List Str} {XP : (Str → Option Value) → Heap → Prop} {YP : World → Heap → Prop} {d : DefRec} {K : Params → PySem.W.Frag} {sp : World → Sp} {x : Str}
    (hn : l.most = some n) (hn2 : n ≤ sizeLine) (hdf : d.params.defaults = []) (rm : Room k callerA) (inK : ∀ (w : World) (h : Heap), YP w h → (K w.params).In h)
    (F : ∀ (w : World) (mg : Str → Option Value) (fa : Addr) (h : Heap), (K w.params).In h → h.Ns mainGlobals mg → mg d.name = some (.ref fa) →
      ∃ fd : FuncData, (∀ (s : Shared) (u : Value), BindsTo s fd ⟨[u], []⟩ [(x, u)]) ∧ ∀ base : Heap, (K w.params).In base → base.Ns mainGlobals mg → FnG l.prog w (K w.params) mg base k fa fd [x] (sp w))
    (want : ∀ (w : World) (H : Hp) (a : Addr) (ns : List Int), ns.length ≤ n → Only H → SqL (K w.params) H a (ns.map V.int) → sp w [.ref a] H (fun v _ => v = .bl true) fun _ _ _ => False) :
    PySem.W.WalkO q loose XP YP l.row.toRowW d [] (fun f vs => PySem.call f vs) := by
  refine Att.attach_call hn hdf fun w s0 s1 mg mb fa o pm cd doc a us ns G Y ho hd hcd hmg hobj hints hlen hg => ?_
  obtain ⟨fd, bt, go⟩ := F w mg fa _ (inK w _ Y) G.T.g hmg
  exact end_call (inK w _ Y) G.T.g G.T.b G.T.builtins G.T.nolimit hg hobj hints (Nat.le_trans hlen hn2) rm go bt fun H hO hS => want w H a ns hlen hO hS
/-! ### texts: t * n, t[::-1] -/
section
variable {X : Cx}
/-- "z" * 60 -/
def rRep60 : R2 := fun x y H Q => x = .str "z" ∧ y = .int 60 ∧ ∀ z : Str, Q (.str z) H
theorem op_rep60 : OpR X (binaryOp .Mult) rRep60 := by
  intro pins s σ H x y v u Q I rx ry h
  obtain ⟨rfl, rfl, q⟩ := h
  obtain ⟨t1, rfl⟩ := rx
  obtain ⟨t2, rfl⟩ := ry
  refine PySem.P.mul_str (by decide) (fun _ _ => by decide) (fun _ _ => by decide +kernel) ?_
  rw [if_neg (by decide), if_neg (by decide)]
  exact ⟨by decide +kernel, .str _, H, I.tok _, ⟨_, rfl⟩, q _⟩
def tRevS (te : TE) : TE := fun σ H Q => te σ H fun x H1 => ∃ z : Str, x = .str z ∧ z.length ≤ 100000 ∧ ∀ z' : Str, z'.length ≤ z.length → Q (.str z') H1
theorem pe_revS {e : Expr} {te : TE} {k : Nat} {q1 q2 q3 pos : Pos} (he : PE X e te) : PE X (.Subscript e (.Slice none none (some (.UnaryOp .USub (.Constant (.int 1) k q1) q2)) q3) pos) (tRevS te) := by
  refine ⟨fun pins s σ H Q I h => Subscript_ (thn (he.run pins s σ H _ I h) fun v s1 hh => ?_)⟩
  obtain ⟨x, H1, I1, r1, z, ex, hz, q⟩ := hh
  subst ex
  obtain ⟨t, rfl⟩ := r1
  have step : PO X (some (.UnaryOp .USub (.Constant (.int 1) k q1) q2)) (tPart (tUn (rU fun i => .int (-i)) (tC (.int 1)))) := po_some (pe_un un_neg pe_int)
  refine wpAny_Slice (thn (po_none.run pins s1 σ H1 (fun o G => o = none ∧ G = H1) I1 ⟨rfl, rfl⟩) fun w1 s2 ⟨o1, G1, J1, p1, f1, g1⟩ => ?_)
  subst f1 g1
  refine thn (po_none.run pins s2 σ G1 (fun o G => o = none ∧ G = G1) J1 ⟨rfl, rfl⟩) fun w2 s3 ⟨o2, G2, J2, p2, f2, g2⟩ => ?_
  subst f2 g2
  refine thn (step.run pins s3 σ G2 (fun o G => o = some (-1) ∧ G = G2) J2 ⟨1, rfl, -1, rfl, rfl, rfl⟩) fun w3 s4 ⟨o3, G3, J3, p3, f3, g3⟩ => ?_
  subst f3 g3
  have J : Inv X pins σ G3 { s4 with heap := s4.heap.push { cls := .type "slice", data := .fields #[w1, w2, w3] } } := J3.kept (t' := s4.toks) fun b ob q => Heap.get?_push_of_some _ q
  obtain ⟨l, rfl, el⟩ := IsPart.raw p1
  obtain ⟨u, rfl, eu⟩ := IsPart.raw p2
  obtain ⟨st, rfl, es⟩ := IsPart.raw p3
  refine tail_any (ops := [.str z t, .ref s4.heap.objs.size]) (typeIs_str _ _ _) PySem.F.slot_str_getitem.lookup ?_ (by with_unfolding_all rfl)
  refine wpAny_getItem_str_slice (l := l) (u := u) (st := st) ⟨_, Heap.get?_push_size _ rfl, rfl, rfl⟩ (by rw [es]; rfl) ?_
  have le : ((slicePicked z l u st).filterMap (z.cps[·]?)).length ≤ z.length := by
    refine Nat.le_trans (List.length_filterMap_le _ _) ?_
    unfold slicePicked
    exact sliceIndicesBy_le _ _ _ (by rw [es]; decide) _
  have no : ((st.map (·.1)).getD 1 == 1 && (slicePicked z l u st).length == z.length) = false := by
    rw [es]
    rfl
  unfold sliceMade
  rw [no]
  have le2 : (⟨((slicePicked z l u st).filterMap (z.cps[·]?)).toArray⟩ : Str).length ≤ z.length := by
    show (((slicePicked z l u st).filterMap (z.cps[·]?)).toArray).size ≤ _
    rw [List.size_toArray]
    exact le
  exact ⟨Nat.le_trans le2 (Nat.le_trans hz (by decide)), .str _, _, J.tok _, ⟨_, rfl⟩, q _ le2⟩
end
def top (i : Nat) : Stmt := PySem.Challenge.pw_threereckons_k19_texts_of_trees_spoilt.main.body.getD i (.Pass ⟨0, 0, 0, 0⟩)
/-! ### texts of trees, gone through twice: by parts, and sign by sign -/
def isLet (c : Nat) : Bool := decide (97 ≤ c) && decide (c ≤ 122)
def isFig (c : Nat) : Bool := decide (48 ≤ c) && decide (c ≤ 57)
def OWNL : List Nat := [111, 119, 110]
/-- how many signs of a kind stand there, n at most -/
def lead (p : Nat → Bool) : Nat → List Nat → Nat
  | 0, _ => 0
  | _ + 1, [] => 0
  | n + 1, c :: r => if p c = true then lead p n r + 1 else 0
inductive Rs (α : Type) where
  | ok (a : α) (j : Nat) (r : List Nat)
  | bad (j : Nat)
def Rs.bind {α β : Type} (x : Rs α) (f : α → Nat → List Nat → Rs β) : Rs β := match x with
  | .ok a j r => f a j r
  | .bad j => .bad j
def noName (w : List Nat) : Bool := decide (w = []) || decide (w = OWNL)
def nameR (j : Nat) (r : List Nat) : Rs (List Nat) :=
  if noName (r.take (lead isLet 6 r)) = true then .bad (j + lead isLet 6 r) else .ok (r.take (lead isLet 6 r)) (j + lead isLet 6 r) (r.drop (lead isLet 6 r))
def figR (j : Nat) (r : List Nat) : Rs Nat :=
  if (decide (lead isFig 6 r = 0) || decide (r.head? = some 48)) = true then .bad j else .ok (NumText.digitsVal (r.take (lead isFig 6 r))) (j + lead isFig 6 r) (r.drop (lead isFig 6 r))
def ownR (j : Nat) (r : List Nat) : Rs Nat := if r.head? = some 58 then figR (j + 1) r.tail else .ok 0 j r
def mkT (w : List Nat) (n : Nat) (ds : List PyData) : PyData := .tuple [.str (SX.S w), .int n, .tuple ds]
/-- behind a part: the end, or one more -/
def partsR (nd : Nat → List Nat → Rs PyData) (j : Nat) (r : List Nat) : Rs (List PyData) :=
  (nd j r).bind fun t1 j1 r1 => if r1.head? = some 41 then .ok [t1] (j1 + 1) r1.tail else if r1.head? = some 44 then
    (nd (j1 + 1) r1.tail).bind fun t2 j2 r2 => if r2.head? = some 41 then .ok [t1, t2] (j2 + 1) r2.tail else .bad j2
  else .bad j1
def nodeR : Nat → Nat → List Nat → Rs PyData
  | 0, j, r => (nameR j r).bind fun w j1 r1 => (ownR j1 r1).bind fun n j2 r2 => .ok (mkT w n []) j2 r2
  | m + 1, j, r => (nameR j r).bind fun w j1 r1 => (ownR j1 r1).bind fun n j2 r2 => if r2.head? = some 40 then
      (partsR (nodeR m) (j2 + 1) r2.tail).bind fun ds j3 r3 => .ok (mkT w n ds) j3 r3
    else .ok (mkT w n []) j2 r2
/-- sign by sign: the word, the figures, whether one ended, what is open -/
def auto : List Nat → List Nat → Option (List Nat) → Bool → List Nat → Nat → Option Nat
  | [], w, f, e, o, j => if (noName w && !e) = true then some j else if f = some [] then some j else if o = [] then none else some j
  | c :: r, w, f, e, o, j =>
    if (isLet c && (decide (f = none) && (!e && decide (w.length < 6)))) = true then auto r (w ++ [c]) f e o (j + 1)
    else if (noName w && !e) = true then some j
    else if (decide (c = 58) && (decide (f = none) && !e)) = true then auto r w (some []) e o (j + 1)
    else if (isFig c && (decide (f ≠ none) && (decide ((f.getD []).length < 6) && decide (f.getD [] ++ [c] ≠ [48])))) = true then auto r w (some (f.getD [] ++ [c])) e o (j + 1)
    else if f = some [] then some j
    else if (decide (c = 40) && (!e && decide (o.length < 30))) = true then auto r [] none false (1 :: o) (j + 1)
    else if (decide (c = 44) && decide (o.head? = some 1)) = true then auto r [] none false (2 :: o.tail) (j + 1)
    else if (decide (c = 41) && decide (o ≠ [])) = true then auto r [120] none true o.tail (j + 1)
    else some j
/-- what comes behind a whole node -/
def tailA (r o : List Nat) (j : Nat) : Option Nat := match r with
  | [] => if o = [] then none else some j
  | c :: r => if (decide (c = 44) && decide (o.head? = some 1)) = true then auto r [] none false (2 :: o.tail) (j + 1)
    else if (decide (c = 41) && decide (o ≠ [])) = true then auto r [120] none true o.tail (j + 1)
    else some j
theorem let_no {c : Nat} (h : isLet c = true) : c ≠ 58 ∧ isFig c = false ∧ c ≠ 40 ∧ c ≠ 44 ∧ c ≠ 41 := by
  unfold isLet at h
  simp only [Bool.and_eq_true, decide_eq_true_eq] at h
  refine ⟨by omega, ?_, by omega, by omega, by omega⟩
  unfold isFig
  rw [Bool.and_eq_false_iff]
  exact .inr (decide_eq_false (by omega))
theorem fig_no {c : Nat} (h : isFig c = true) : c ≠ 58 ∧ isLet c = false ∧ c ≠ 40 ∧ c ≠ 44 ∧ c ≠ 41 := by
  unfold isFig at h
  simp only [Bool.and_eq_true, decide_eq_true_eq] at h
  refine ⟨by omega, ?_, by omega, by omega, by omega⟩
  unfold isLet
  rw [Bool.and_eq_false_iff]
  exact .inl (decide_eq_false (by omega))
theorem auto_ended (r o : List Nat) (j : Nat) : auto r [120] none true o j = tailA r o j := by
  cases r with
  | nil => simp [auto, tailA]
  | cons c r => simp [auto, tailA]
/-- behind the word -/
def afterW (r w o : List Nat) (j : Nat) : Option Nat :=
  if noName w = true then some j else match r with
  | [] => tailA [] o j
  | c :: r => if c = 58 then auto r w (some []) false o (j + 1) else if (decide (c = 40) && decide (o.length < 30)) = true then auto r [] none false (1 :: o) (j + 1) else tailA (c :: r) o j
/-- behind the number -/
def afterF (r o : List Nat) (j : Nat) : Option Nat := match r with
  | [] => tailA [] o j
  | c :: r => if (decide (c = 40) && decide (o.length < 30)) = true then auto r [] none false (1 :: o) (j + 1) else tailA (c :: r) o j
theorem auto_word (o : List Nat) : ∀ (r w : List Nat) (j n : Nat), w.length + n = 6 → auto r w none false o j = afterW (r.drop (lead isLet n r)) (w ++ r.take (lead isLet n r)) o (j + lead isLet n r) := by
  intro r
  induction r with
  | nil =>
    intro w j n h
    have e : lead isLet n [] = 0 := by cases n <;> rfl
    rw [e]
    simp [auto, afterW, tailA]
  | cons c r ih =>
    intro w j n h
    cases n with
    | zero =>
      have e : lead isLet 0 (c :: r) = 0 := rfl
      rw [e]
      have hl : ¬ w.length < 6 := by omega
      simp [auto, afterW, tailA, hl]
    | succ n =>
      by_cases hc : isLet c = true
      · have e : lead isLet (n + 1) (c :: r) = lead isLet n r + 1 := if_pos hc
        rw [e]
        have hl : w.length < 6 := by omega
        have step : auto (c :: r) w none false o j = auto r (w ++ [c]) none false o (j + 1) := by
          simp [auto, hc, hl]
        rw [step, ih (w ++ [c]) (j + 1) n (by rw [List.length_append]; show w.length + 1 + n = 6; omega)]
        rw [List.drop_succ_cons, List.take_succ_cons, List.append_assoc]
        rw [show j + 1 + lead isLet n r = j + (lead isLet n r + 1) by omega]
        rfl
      · have e : lead isLet (n + 1) (c :: r) = 0 := if_neg hc
        rw [e]
        simp [auto, afterW, tailA, hc]
theorem auto_figs (o w : List Nat) (hw : noName w = false) : ∀ (r g : List Nat) (j n : Nat), g ≠ [] → g.length + n = 6 → auto r w (some g) false o j = afterF (r.drop (lead isFig n r)) o (j + lead isFig n r) := by
  intro r
  induction r with
  | nil =>
    intro g j n hg h
    have e : lead isFig n [] = 0 := by cases n <;> rfl
    rw [e]
    simp [auto, afterF, tailA, hw, hg]
  | cons c r ih =>
    intro g j n hg h
    cases n with
    | zero =>
      have e : lead isFig 0 (c :: r) = 0 := rfl
      rw [e]
      have hl : ¬ g.length < 6 := by omega
      simp [auto, afterF, tailA, hl, hw, hg]
    | succ n =>
      by_cases hc : isFig c = true
      · have e : lead isFig (n + 1) (c :: r) = lead isFig n r + 1 := if_pos hc
        rw [e]
        have hl : g.length < 6 := by omega
        have h0 : g ++ [c] ≠ [48] := fun z => by
          have := congrArg List.length z
          rw [List.length_append] at this
          have : g.length = 0 := by
            have e1 : ([c] : List Nat).length = 1 := rfl
            have e2 : ([48] : List Nat).length = 1 := rfl
            omega
          exact hg (List.eq_nil_of_length_eq_zero this)
        have step : auto (c :: r) w (some g) false o j = auto r w (some (g ++ [c])) false o (j + 1) := by
          simp [auto, hc, hl, hw, h0]
        rw [step, ih (g ++ [c]) (j + 1) n (by simp) (by rw [List.length_append]; show g.length + 1 + n = 6; omega)]
        rw [List.drop_succ_cons]
        rw [show j + 1 + lead isFig n r = j + (lead isFig n r + 1) by omega]
      · have e : lead isFig (n + 1) (c :: r) = 0 := if_neg hc
        rw [e]
        simp [auto, afterF, tailA, hc, hw, hg]
theorem auto_fig0 (o w : List Nat) (hw : noName w = false) (r : List Nat) (j : Nat) : auto r w (some []) false o j = match figR j r with
    | .ok _ j' r' => afterF r' o j'
    | .bad j' => some j' := by
  unfold figR
  cases r with
  | nil => simp [auto, lead, hw]
  | cons c r =>
    by_cases hc : isFig c = true
    · have e : lead isFig 6 (c :: r) = lead isFig 5 r + 1 := if_pos hc
      by_cases h0 : c = 48
      · subst h0
        rw [if_pos (by simp)]
        simp [auto, hw]
      · have step : auto (c :: r) w (some []) false o j = auto r w (some [c]) false o (j + 1) := by
          simp [auto, hc, hw, h0]
        rw [if_neg (by simp [e, h0]), step, auto_figs o w hw r [c] (j + 1) 5 (by simp) rfl]
        rw [e, List.drop_succ_cons, show j + 1 + lead isFig 5 r = j + (lead isFig 5 r + 1) by omega]
    · have e : lead isFig 6 (c :: r) = 0 := if_neg hc
      rw [if_pos (by simp [e])]
      simp [auto, hc, hw]
theorem afterW_own (r w o : List Nat) (j : Nat) (hw : noName w = false) : afterW r w o j = match ownR j r with
    | .ok _ j' r' => afterF r' o j'
    | .bad j' => some j' := by
  unfold afterW ownR
  rw [if_neg (by rw [hw]; decide)]
  cases r with
  | nil => rfl
  | cons c r =>
    by_cases h : c = 58
    · subst h
      rw [if_pos (show (58 :: r).head? = some 58 from rfl)]
      show (if (58 : Nat) = 58 then auto r w (some []) false o (j + 1) else _) = _
      rw [if_pos (rfl : (58 : Nat) = 58)]
      exact auto_fig0 o w hw r (j + 1)
    · rw [if_neg (by simpa using h)]
      show (if c = 58 then _ else _) = _
      rw [if_neg h]
      rfl
theorem node_start (o : List Nat) (j : Nat) (r : List Nat) : auto r [] none false o j = match nameR j r with
    | .ok _ j1 r1 => match ownR j1 r1 with
      | .ok _ j2 r2 => afterF r2 o j2
      | .bad j2 => some j2
    | .bad j1 => some j1 := by
  rw [auto_word o r [] j 6 rfl]
  unfold nameR
  rw [List.nil_append]
  by_cases h : noName (r.take (lead isLet 6 r)) = true
  · rw [if_pos h]
    unfold afterW
    rw [if_pos h]
  · rw [if_neg h]
    exact afterW_own _ _ o _ (by simpa using h)
def Agree (o r : List Nat) (j : Nat) (x : Rs PyData) : Prop := auto r [] none false o j = match x with
  | .ok _ j' r' => tailA r' o j'
  | .bad j' => some j'
theorem head_cases (r : List Nat) : r = [] ∨ ∃ c q, r = c :: q := by
  cases r with
  | nil => exact .inl rfl
  | cons c q => exact .inr ⟨c, q, rfl⟩
theorem parts_auto {nd : Nat → List Nat → Rs PyData} (o : List Nat) (hn : ∀ k j r, Agree (k :: o) r j (nd j r)) (j : Nat) (r : List Nat) : auto r [] none false (1 :: o) j = match partsR nd j r with
    | .ok _ j' r' => tailA r' o j'
    | .bad j' => some j' := by
  have h1 := hn 1 j r
  unfold Agree at h1
  rw [h1]
  unfold partsR
  cases e1 : nd j r with
  | bad p => rfl
  | ok t1 j1 r1 =>
    show tailA r1 (1 :: o) j1 = match (if r1.head? = some 41 then Rs.ok [t1] (j1 + 1) r1.tail else if r1.head? = some 44 then (nd (j1 + 1) r1.tail).bind fun t2 j2 r2 => if r2.head? = some 41 then .ok [t1, t2] (j2 + 1) r2.tail else .bad j2 else .bad j1) with
      | .ok _ j' r' => tailA r' o j'
      | .bad j' => some j'
    rcases head_cases r1 with rfl | ⟨c, q, rfl⟩
    · rfl
    · by_cases hc : c = 41
      · subst hc
        rw [if_pos (show (41 :: q).head? = some 41 from rfl)]
        show tailA (41 :: q) (1 :: o) j1 = tailA q o (j1 + 1)
        rw [← auto_ended q o]
        simp [tailA]
      · rw [if_neg (by simpa using hc)]
        by_cases hd : c = 44
        · subst hd
          rw [if_pos (show (44 :: q).head? = some 44 from rfl)]
          have h2 := hn 2 (j1 + 1) q
          unfold Agree at h2
          have e3 : tailA (44 :: q) (1 :: o) j1 = auto q [] none false (2 :: o) (j1 + 1) := by simp [tailA]
          rw [e3, h2]
          show _ = match (nd (j1 + 1) q).bind (fun t2 j2 r2 => if r2.head? = some 41 then Rs.ok [t1, t2] (j2 + 1) r2.tail else .bad j2) with
            | .ok _ j' r' => tailA r' o j'
            | .bad j' => some j'
          cases e2 : nd (j1 + 1) q with
          | bad p => rfl
          | ok t2 j2 r2 =>
            show tailA r2 (2 :: o) j2 = match (if r2.head? = some 41 then Rs.ok [t1, t2] (j2 + 1) r2.tail else .bad j2) with
              | .ok _ j' r' => tailA r' o j'
              | .bad j' => some j'
            rcases head_cases r2 with rfl | ⟨c, q2, rfl⟩
            · rfl
            · by_cases hc : c = 41
              · subst hc
                rw [if_pos (show (41 :: q2).head? = some 41 from rfl)]
                show tailA (41 :: q2) (2 :: o) j2 = tailA q2 o (j2 + 1)
                rw [← auto_ended q2 o]
                simp [tailA]
              · rw [if_neg (by simpa using hc)]
                simp [tailA, hc]
        · rw [if_neg (by simpa using hd)]
          simp [tailA, hc, hd]
theorem node_auto : ∀ (m : Nat) (o : List Nat), o.length + m = 30 → ∀ (j : Nat) (r : List Nat), Agree o r j (nodeR m j r) := by
  intro m
  induction m with
  | zero =>
    intro o ho j r
    unfold Agree
    rw [node_start]
    unfold nodeR
    cases nameR j r with
    | bad p => rfl
    | ok w j1 r1 =>
      show (match ownR j1 r1 with
        | .ok _ j2 r2 => afterF r2 o j2
        | .bad j2 => some j2) = match ((ownR j1 r1).bind fun n j2 r2 => Rs.ok (mkT w n []) j2 r2) with
        | .ok _ j' r' => tailA r' o j'
        | .bad j' => some j'
      cases ownR j1 r1 with
      | bad p => rfl
      | ok n j2 r2 =>
        show afterF r2 o j2 = tailA r2 o j2
        cases r2 with
        | nil => rfl
        | cons c q =>
          have : ¬ o.length < 30 := by omega
          simp [afterF, this]
  | succ m ih =>
    intro o ho j r
    unfold Agree
    rw [node_start]
    unfold nodeR
    cases nameR j r with
    | bad p => rfl
    | ok w j1 r1 =>
      show (match ownR j1 r1 with
        | .ok _ j2 r2 => afterF r2 o j2
        | .bad j2 => some j2) = match ((ownR j1 r1).bind fun n j2 r2 => if r2.head? = some 40 then (partsR (nodeR m) (j2 + 1) r2.tail).bind fun ds j3 r3 => Rs.ok (mkT w n ds) j3 r3 else .ok (mkT w n []) j2 r2) with
        | .ok _ j' r' => tailA r' o j'
        | .bad j' => some j'
      cases ownR j1 r1 with
      | bad p => rfl
      | ok n j2 r2 =>
        show afterF r2 o j2 = match (if r2.head? = some 40 then (partsR (nodeR m) (j2 + 1) r2.tail).bind fun ds j3 r3 => Rs.ok (mkT w n ds) j3 r3 else .ok (mkT w n []) j2 r2) with
          | .ok _ j' r' => tailA r' o j'
          | .bad j' => some j'
        rcases head_cases r2 with rfl | ⟨c, q, rfl⟩
        · rfl
        · by_cases hc : c = 40
          · subst hc
            rw [if_pos (show (40 :: q).head? = some 40 from rfl)]
            have hl : o.length < 30 := by omega
            have e : afterF (40 :: q) o j2 = auto q [] none false (1 :: o) (j2 + 1) := by simp [afterF, hl]
            rw [e, parts_auto (nd := nodeR m) o (fun k j r => ih (k :: o) (by rw [List.length_cons]; omega) j r)]
            show _ = match ((partsR (nodeR m) (j2 + 1) q).bind fun ds j3 r3 => Rs.ok (mkT w n ds) j3 r3) with
              | .ok _ j' r' => tailA r' o j'
              | .bad j' => some j'
            cases partsR (nodeR m) (j2 + 1) q with
            | bad p => rfl
            | ok ds j3 r3 => rfl
          · rw [if_neg (by simpa using hc)]
            simp [afterF, hc]
/-- the whole text -/
def treeR (cs : List Nat) : Rs PyData := (nodeR 30 0 cs).bind fun t j r => if r = [] then .ok t j r else .bad j
theorem tree_auto (cs : List Nat) : auto cs [] none false [] 0 = match treeR cs with
    | .ok _ _ _ => none
    | .bad j => some j := by
  have h := node_auto 30 [] rfl 0 cs
  unfold Agree at h
  rw [h]
  unfold treeR
  cases nodeR 30 0 cs with
  | bad p => rfl
  | ok t j r =>
    show tailA r [] j = match (if r = [] then Rs.ok t j r else .bad j) with
      | .ok _ _ _ => none
      | .bad j => some j
    rcases head_cases r with rfl | ⟨c, q, rfl⟩
    · rfl
    · rw [if_neg (by simp)]
      simp [tailA]
/-! ### the draws -/
abbrev s__law_take : Stmt := top 25
abbrev N__law_take : List Str := ["_law_box", "_law_many", "_law_found", "_law_once", "_law_twice"]
abbrev P__law_take : List Str := ["_law_box", "_law_many"]
theorem sc__law_take : FnScope N__law_take P__law_take (defScope s__law_take) := ⟨rfl, rfl, rfl, by decide +kernel, rfl, by decide +kernel, by decide +kernel⟩
abbrev s__law_dip : Stmt := top 24
abbrev N__law_dip : List Str := ["_law_script", "_law_k", "_law_cell"]
abbrev P__law_dip : List Str := ["_law_script", "_law_k"]
theorem sc__law_dip : FnScope N__law_dip P__law_dip (defScope s__law_dip) := ⟨rfl, rfl, rfl, by decide +kernel, rfl, by decide +kernel, by decide +kernel⟩
abbrev s__law_folded : Stmt := top 26
abbrev N__law_folded : List Str := ["_law_script", "_law_size", "_law_cells", "_law_k", "_law_cell"]
abbrev P__law_folded : List Str := ["_law_script", "_law_size"]
theorem sc__law_folded : FnScope N__law_folded P__law_folded (defScope s__law_folded) := ⟨rfl, rfl, rfl, by decide +kernel, rfl, by decide +kernel, by decide +kernel⟩
section
variable {P : Program} {w : World} {K : PySem.W.Frag} {mg : Str → Option Value} {base : Heap}
theorem ok_take (D : Dd K mg "_law_take" s__law_take P__law_take) : C8.Cal P w K mg base 1 "_law_take" spTake [] := by
  refine D.cal sc__law_take (fun vs H Q E h => ?_) (fun f cdv A outer s H vs Q E hr h => ?_)
  · obtain ⟨a, many, n, b, rfl, _⟩ := h
    rfl
  · obtain ⟨a, many, n, b, rfl, ha, ⟨b0, b1, b2, rfl, h0, h1, h1', h2, h2'⟩, hn, hm, hm', k⟩ := h
    refine ⟨_, (pss_cons (ps_if (pt_cmpR op_gt (pe_ix ix_list (pv 0) pe_int (fun _ _ => rfl)) pe_int (nomark _))
          (pss_cons (ps_set (i := 2) sc__law_take.nd rfl (Or.inl rfl) (pe_op op_mod (pe_ix ix_list (pv 0) pe_int (fun _ _ => rfl)) (pv 1)))
        (pss_cons (ps_asg (pe_op op_fdiv (pe_ix ix_list (pv 0) pe_int (fun _ _ => rfl)) (pv 1)) (pg_sub (pv 0) pe_int set_list))
        (pss_one (ps_ret (pv 2)))))
          pss_nil)
        (pss_cons (ps_asg (pe_op op_add (pe_ix ix_list (pv 0) pe_int (fun _ _ => rfl)) pe_int) (pg_sub (pv 0) pe_int set_list))
        (pss_cons (ps_set (i := 3) sc__law_take.nd rfl (Or.inl rfl) (pe_op op_mod (pe_op op_pow (pe_op op_add (pe_ix ix_list (pv 0) pe_int (fun _ _ => rfl)) (pe_op op_mul pe_int (pe_ix ix_list (pv 0) pe_int (fun _ _ => rfl)))) pe_int) pe_int))
        (pss_cons (ps_set (i := 4) sc__law_take.nd rfl (Or.inl rfl) (pe_op op_mod (pe_op op_mul (pe_op op_add (pe_op op_add (pv 3) (pe_ix ix_list (pv 0) pe_int (fun _ _ => rfl))) (pe_op op_fdiv (pe_ix ix_list (pv 0) pe_int (fun _ _ => rfl)) pe_int)) (pe_op op_add (pe_op op_add (pe_op op_mod (pv 3) pe_int) pe_int) (pe_ix ix_list (pv 0) pe_int (fun _ _ => rfl)))) pe_int))
        (pss_one (ps_ret (pe_op op_mod (pe_op op_fdiv (pe_op op_mod (pe_op op_add (pe_op op_mul (pv 4) pe_int) (pv 3)) pe_int) pe_int) (pv 1)))))))), ?_⟩
    have hL : SqL K H a [.int b0, .int b1, .int b2] := SqL.of ha
    refine ⟨_, rfl, a, _, 0, .int b0, rfl, rfl, hL, atI_nat (j := 0) rfl, _, _, rfl, rfl, _, rfl, ite2 (fun e => ?_) (fun e => ?_)⟩
    · have e0 : 0 < b0 := of_decide_eq_true e
      refine ⟨_, rfl, a, _, 0, .int b0, rfl, rfl, hL, atI_nat (j := 0) rfl, .int many, rfl, _, _, rfl, rfl, hm, ?_⟩
      refine ⟨_, rfl, a, _, 0, .int b0, rfl, rfl, hL, atI_nat (j := 0) rfl, .int many, rfl, _, _, rfl, rfl, ⟨hm, hm'⟩, ?_⟩
      refine ⟨_, rfl, a, _, 0, 0, rfl, rfl, ha, rfl, _, rfl, ?_⟩
      refine k (b0 % many) _ (Int.emod_nonneg _ (by omega)) (Int.emod_lt_of_pos _ hm) ⟨b0 / many, b1, b2, rfl, Int.ediv_nonneg h0 (by omega), h1, h1', h2, by omega⟩
    · refine ⟨_, rfl, a, _, 2, .int b2, rfl, rfl, hL, atI_nat (j := 2) rfl, _, _, rfl, rfl, _, rfl, a, _, 2, 2, rfl, rfl, ha, rfl, ?_⟩
      have hL2 : SqL K (upd H a (.lst [.int b0, .int b1, .int (b2 + 1)])) a [.int b0, .int b1, .int (b2 + 1)] := SqL.of upd_same
      refine ⟨_, rfl, a, _, 1, .int b1, rfl, rfl, hL2, atI_nat (j := 1) rfl, _, rfl, a, _, 2, .int (b2 + 1), rfl, rfl, hL2, atI_nat (j := 2) rfl, _, _, rfl, rfl, .inl ⟨by decide, by decide⟩, _, _, rfl, rfl, _, _, rfl, rfl,
        ⟨by decide, by decide, by omega⟩, _, _, rfl, rfl, (by show (0 : Int) < _; decide), ?_⟩
      have q : (b1 + 39373 * (b2 + 1)) ^ Int.toNat 5 % 2147483647 = (b1 + 39373 * (b2 + 1)) ^ Int.toNat 5 % 2147483647 := rfl
      generalize (b1 + 39373 * (b2 + 1)) ^ Int.toNat 5 = w5
      have g1 : 0 ≤ w5 % 2147483647 := Int.emod_nonneg _ (by decide)
      have g2 : w5 % 2147483647 < 2147483647 := Int.emod_lt_of_pos _ (by decide)
      have g3 : 0 ≤ b1 / 1000003 := Int.ediv_nonneg h1 (by decide)
      have g4 : b1 / 1000003 ≤ b1 := Int.ediv_le_self _ h1
      have g5 : 0 ≤ w5 % 2147483647 % 40009 := Int.emod_nonneg _ (by decide)
      have g6 : w5 % 2147483647 % 40009 < 40009 := Int.emod_lt_of_pos _ (by decide)
      refine ⟨_, rfl, _, rfl, a, _, 2, .int (b2 + 1), rfl, rfl, hL2, atI_nat (j := 2) rfl, _, _, rfl, rfl, _, rfl, a, _, 1, .int b1, rfl, rfl, hL2, atI_nat (j := 1) rfl, _, _, rfl, rfl, ⟨by decide, by decide⟩, _, _, rfl, rfl,
        _, rfl, _, _, rfl, rfl, (by show (0 : Int) < _; decide), _, _, rfl, rfl, _, rfl, a, _, 2, .int (b2 + 1), rfl, rfl, hL2, atI_nat (j := 2) rfl, _, _, rfl, rfl, _, _, rfl, rfl, .inl ⟨by omega, by omega⟩, _, _, rfl, rfl, (by show (0 : Int) < _; decide), ?_⟩
      generalize (w5 % 2147483647 + (b2 + 1) + b1 / 1000003) * (w5 % 2147483647 % 40009 + 7 + (b2 + 1)) = w6
      refine ⟨_, rfl, _, _, rfl, rfl, .inr ⟨by decide, by decide⟩, _, rfl, _, _, rfl, rfl, _, _, rfl, rfl, (by show (0 : Int) < _; decide), _, _, rfl, rfl, ⟨by decide, by decide⟩, .int many, rfl, _, _, rfl, rfl, hm, ?_⟩
      exact k _ _ (Int.emod_nonneg _ (by omega)) (Int.emod_lt_of_pos _ hm) ⟨b0, b1, b2 + 1, rfl, h0, h1, h1', by omega, by omega⟩
theorem b01 (b : Bool) : -(2 ^ 64) < (if b = true then (1 : Int) else 0) ∧ (if b = true then (1 : Int) else 0) < 2 ^ 64 := by cases b <;> decide
theorem dip_b0 (c : Int) (b : Bool) : 0 ≤ (if c < 0 then -c else c) * (if b = true then 1 else 0) := by
  cases b with
  | false => simp
  | true =>
    rw [if_pos rfl, Int.mul_one]
    split <;> omega
theorem ok_dip (B : Bt mg) (D : Dd K mg "_law_dip" s__law_dip P__law_dip) : C8.Cal P w K mg base 1 "_law_dip" (spDip K) [] := by
  refine D.cal sc__law_dip (fun vs H Q E h => ?_) (fun f cdv A outer s H vs Q E hr h => ?_)
  · obtain ⟨a, k, ns, rfl, _⟩ := h
    rfl
  · obtain ⟨a, k, ns, rfl, hS, hk, q⟩ := h
    have T := B
    refine ⟨_, (pss_cons (ps_set (i := 2) sc__law_dip.nd rfl (Or.inl rfl) (pe_ifExp (pt_cmpR op_lt (pv 1) (pe_callB call_len_seq (by rfl) T.len PySem.boot_len (pa_cons (pv 0) pa_nil)) (nomark _)) (pe_ix ix_list (pv 0) (pv 1) (fun _ _ => rfl)) pe_int))
        (pss_one (ps_ret (pe_lst (pa_cons (pe_op op_mul (pe_callB call_abs (by rfl) T.abs (by decide +kernel) (pa_cons (pv 2) pa_nil)) (pe_callTy call_int1 (by rfl) T.int (by decide +kernel) (pa_cons (pe_cmpR op_ge (pe_callB call_abs (by rfl) T.abs (by decide +kernel) (pa_cons (pv 2) pa_nil)) (pe_op op_pow pe_int pe_int) (nomark _)) pa_nil))) (pa_cons (pe_op op_add (pe_op op_add (pe_op op_mod (pv 2) pe_int) (pe_op op_mul pe_int (pv 1))) pe_int) (pa_cons pe_int pa_nil))))))), ?_⟩
    have rest : ∀ c : Int, (tRet (tLst (tCons (tOp (rI CMul fun i j => .int (i * j)) (tCB (fun xs H Q => ∃ i, xs = [.int i] ∧ Q (.int (if i < 0 then -i else i)) H) (tCons (tVar 2) tNil))
        (tCB (fun xs H Q => (∃ i, xs = [.int i] ∧ Q (.int i) H) ∨ ∃ k, xs = [.bl k] ∧ Q (.int (if k then 1 else 0)) H) (tCons (tOp (rI0 fun i j => .bl (decide (j ≤ i))) (tCB (fun xs H Q => ∃ i, xs = [.int i] ∧ Q (.int (if i < 0 then -i else i)) H) (tCons (tVar 2) tNil)) (tOp (rI CPow fun i j => .int (i ^ j.toNat)) (tC (.int 10)) (tC (.int 18)))) tNil)))
        (tCons (tOp (rI0 fun i j => .int (i + j)) (tOp (rI0 fun i j => .int (i + j)) (tOp (rI (fun _ j => 0 < j) fun i j => .int (i % j)) (tVar 2) (tC (.int 2305843009213693951))) (tOp (rI CMul fun i j => .int (i * j)) (tC (.int 39373)) (tVar 1))) (tC (.int 17))) (tCons (tC (.int 0)) tNil)))))
        { nx := fun _ H' => Q .non H', rt := Q } [some (.ref a), some (.int k), some (.int c)] H := fun c => by
      refine ⟨_, rfl, c, rfl, _, rfl, c, rfl, _, _, rfl, rfl, ⟨by decide, by decide, by decide⟩, _, _, rfl, rfl, .inr ⟨_, rfl, ?_⟩⟩
      refine ⟨_, _, rfl, rfl, .inr (b01 _), ?_⟩
      refine ⟨_, rfl, _, _, rfl, rfl, (by show (0 : Int) < _; decide), _, rfl, _, _, rfl, rfl, .inl ⟨by decide, by decide⟩, _, _, rfl, rfl, _, _, rfl, rfl, ?_⟩
      refine ⟨by show 3 ≤ sizeLine; decide, fun p hp => q p _ hp ⟨_, _, 0, rfl, dip_b0 c _, ?_, ?_, Int.le_refl _, Int.le_refl _⟩⟩
      · have := Int.emod_nonneg c (show (2305843009213693951 : Int) ≠ 0 by decide)
        omega
      · have := Int.emod_lt_of_pos c (show (0 : Int) < 2305843009213693951 by decide)
        omega
    refine ⟨_, rfl, _, rfl, a, _, rfl, .inl hS, _, _, rfl, rfl, _, rfl, ite2 (fun e => ?_) (fun e => ?_)⟩
    · have hlt : k < ns.length := by
        have := of_decide_eq_true e
        rw [List.length_map] at this
        omega
      have g : (ns.map V.int)[k]? = some (.int ns[k]) := by
        rw [List.getElem?_map, List.getElem?_eq_getElem hlt]
        rfl
      exact ⟨_, rfl, _, rfl, a, _, k, .int ns[k], rfl, rfl, hS, atI_nat g, rest _⟩
    · exact rest 0
theorem ixN_nat {n j : Nat} (h : j < n) : ixN n (j : Int) = some j := by
  unfold ixN
  rw [if_pos (by omega), if_pos (by omega)]
  simp
theorem ok_folded (B : Bt mg) (D : Dd K mg "_law_folded" s__law_folded P__law_folded) : C8.Cal P w K mg base 1 "_law_folded" (spFold K) [] := by
  refine D.cal sc__law_folded (fun vs H Q E h => ?_) (fun f cdv A outer s H vs Q E hr h => ?_)
  · obtain ⟨a, size, ns, rfl, _⟩ := h
    rfl
  · obtain ⟨a, size, ns, rfl, hS, hl, h1, h8, q⟩ := h
    have T := B
    refine ⟨_, (pss_cons (ps_set (i := 2) sc__law_folded.nd rfl (Or.inl rfl) (pe_callTy call_list_of (by rfl) T.list (by decide +kernel) (pa_cons (pe_slice sl_list (pv 0) po_none (po_some (pv 1))) pa_nil)))
        (pss_cons (ps_for PassesOwn.never rfl (pi_enum (by rfl) T.enumerate (pa_cons (pe_slice sl_list (pv 0) (po_some (pv 1)) (po_some pe_int)) pa_nil)) (pg_tup rfl (pgs_cons (pg_name (i := 3) sc__law_folded.nd rfl (Or.inl rfl)) (pgs_cons (pg_name (i := 4) sc__law_folded.nd rfl (Or.inl rfl)) pgs_nil)))
          (pss_one (ps_asg (pe_op op_add (pe_ix ix_list (pv 2) (pe_op op_mod (pv 3) (pv 1)) (fun _ _ => rfl)) (pe_op op_mul (pv 4) (pe_op op_add (pv 3) pe_int))) (pg_sub (pv 2) (pe_op op_mod (pv 3) (pv 1)) set_list))))
        (pss_one (ps_ret (pv 2))))), ?_⟩
    -- cells = list(script[:size])
    refine ⟨_, rfl, _, rfl, _, rfl, a, _, rfl, hS, fun c1 n1 => ⟨c1, _, rfl, .inl (SqL.of upd_same), fun l nl => ?_⟩⟩
    have s1 : Same H (upd H c1 (.lst (cutV (ns.map V.int) none (some (size : Int))))) := same_upd n1
    have s2 := s1.trans (same_upd (o := .lst (cutV (ns.map V.int) none (some (size : Int)))) nl)
    -- enumerate(script[size:63])
    refine ⟨_, rfl, _, rfl, _, rfl, _, rfl, a, _, rfl, s2.seq hS, fun c2 n2 => ⟨c2, _, rfl, SqL.of upd_same, ?_⟩⟩
    have nlc : l ≠ c2 := fun e => by
      rw [e] at n2
      rw [← e, upd_same] at n2
      cases n2
    refine for_it walk_enum (fun i σ H3 => ∃ y3 y4, ∃ ms : List Int, σ = [some (.ref a), some (.int size), some (.ref l), y3, y4] ∧ Same H H3 ∧ H3 c2 = some (.lst (cutV (ns.map V.int) (some (size : Int)) (some 63))) ∧ H3 l = some (.lst (ms.map V.int)) ∧ ms.length = min size ns.length)
      ⟨none, none, ns.take size, rfl, s2.trans (same_upd n2), upd_same, ?_, by rw [List.length_take]⟩ (fun i σ H3 _ ⟨_, _, _, _, _, hc, _⟩ => SqL.of hc) ?_ ?_
    · rw [upd_ne nlc, upd_same, cut_to]
    · rintro i v σ H3 H4 hi ⟨y3, y4, ms, rfl, sm, hc, hm, hml⟩ ⟨T, x, y, rfl, nT, rfl, ex, ey⟩
      cases ex
      obtain ⟨rs, ers, _⟩ := cut_ints ns (some (size : Int)) (some 63)
      have hsz : size ≤ ns.length := by
        apply Classical.byContradiction
        intro hh
        rw [cut_from_nil ns size (by omega)] at hi
        simp at hi
      have hms : ms.length = size := by omega
      rw [ers] at ey
      rw [ers, List.length_map] at hi
      have ey' : y = .int rs[i] := by
        replace ey : (List.map V.int rs)[i]? = some y := ey
        rw [List.getElem?_map, List.getElem?_eq_getElem hi] at ey
        exact (Option.some.inj ey).symm
      subst ey'
      have hi63 : i < 63 := by omega
      have nTl : l ≠ T := ne_of_none hm nT
      have nTc : c2 ≠ T := ne_of_none hc nT
      have hm' : (upd H3 T (.tup [.int (i : Nat), .int rs[i]])) l = some (.lst (ms.map V.int)) := by
        rw [upd_ne nTl]
        exact hm
      have hj : i % size < ms.length := by
        rw [hms]
        exact Nat.mod_lt _ (by omega)
      have g : (ms.map V.int)[i % size]? = some (.int ms[i % size]) := by
        rw [List.getElem?_map, List.getElem?_eq_getElem hj]
        rfl
      have ei : ((i : Nat) : Int) % ((size : Nat) : Int) = ((i % size : Nat) : Int) := by omega
      refine ⟨T, _, rfl, SqT.of upd_same, rfl, _, _, rfl, _, _, rfl, rfl, ?_⟩
      refine ⟨_, rfl, _, rfl, _, rfl, _, _, rfl, rfl, (by show (0 : Int) < _; omega), l, _, _, .int ms[i % size], rfl, rfl, SqL.of hm', ?_, ?_⟩
      · rw [ei]
        exact atI_nat g
      refine ⟨_, rfl, _, rfl, _, _, rfl, rfl, _, _, rfl, rfl, .inr ⟨by omega, by omega⟩, _, _, rfl, rfl, _, rfl, _, rfl, _, rfl, _, _, rfl, rfl, (by show (0 : Int) < _; omega), l, _, _, i % size, rfl, rfl, hm', ?_, ?_⟩
      · rw [ei, List.length_map]
        exact ixN_nat hj
      · refine ⟨_, _, ms.set (i % size) (ms[i % size] + rs[i] * ((i : Int) + 2)), rfl, fun b z e => ?_, ?_, ?_, by rw [List.length_set]; exact hml⟩
        · have nb : b ≠ l := by
            intro eb
            rw [eb] at e
            have e2 := s1 _ _ e
            rw [e2] at nl
            cases nl
          rw [upd_ne nb]
          exact same_upd nT _ _ (sm _ _ e)
        · rw [upd_ne nlc.symm, upd_ne nTc]
          exact hc
        · rw [upd_same, List.map_set]
    · rintro σ H3 ⟨y3, y4, ms, rfl, sm, hc, hm, hml⟩
      exact ⟨_, rfl, q H3 l ms sm (s1.free nl) hm (by omega)⟩
end
/-! ### own_copy, of data of any depth -/
abbrev s_own_copy : Stmt := top 5
abbrev N_own_copy : List Str := ["thing", "copied", "part"]
abbrev P_own_copy : List Str := ["thing"]
theorem sc_own_copy : FnScope N_own_copy P_own_copy (defScope s_own_copy) := ⟨rfl, rfl, rfl, by decide +kernel, rfl, by decide +kernel, by decide +kernel⟩
structure Ot (mg : Str → Option Value) : Prop where
  isinstance : mg "isinstance" = none
  list : mg "list" = none
  tuple : mg "tuple" = none
/-- data so deep at most, no list or tuple of more than 500 -/
inductive Sm : Nat → PyData → Prop where
  | non (n : Nat) : Sm n .none
  | bl (n : Nat) (b : Bool) : Sm n (.bool b)
  | int (n : Nat) (i : Int) : Sm n (.int i)
  | str (n : Nat) (x : Str) : Sm n (.str x)
  | lst (n : Nat) {ds : List PyData} (h : ds.length ≤ 500) (a : ∀ d ∈ ds, Sm n d) : Sm (n + 1) (.list ds)
  | tup (n : Nat) {ds : List PyData} (h : ds.length ≤ 500) (a : ∀ d ∈ ds, Sm n d) : Sm (n + 1) (.tuple ds)
section
variable {K : PySem.W.Frag} {H H' : Hp}
theorem Same.seqL {a : Addr} {xs : List V} (s : Same H H') (h : SqL K H a xs) : SqL K H' a xs := by
  rcases h with (h | ⟨o, h⟩) | h
  · exact .inl (.inl (s _ _ h))
  · exact .inl (.inr ⟨o, s _ _ h⟩)
  · exact .inr h
theorem Same.seqT {a : Addr} {xs : List V} (s : Same H H') (h : SqT K H a xs) : SqT K H' a xs := by
  rcases h with (h | ⟨o, h⟩) | h
  · exact .inl (.inl (s _ _ h))
  · exact .inl (.inr ⟨o, s _ _ h⟩)
  · exact .inr h
mutual
theorem dp_same (s : Same H H') : ∀ {v : V} {d : PyData}, Dp K H v d → Dp K H' v d
  | _, _, .non => .non
  | _, _, .bl b => .bl b
  | _, _, .int i => .int i
  | _, _, .str x => .str x
  | _, _, .lst h a => .lst (Same.seqL s h) (dpAll_same s a)
  | _, _, .tup h a => .tup (Same.seqT s h) (dpAll_same s a)
theorem dpAll_same (s : Same H H') : ∀ {vs : List V} {ds : List PyData}, DpAll K H vs ds → DpAll K H' vs ds
  | _, _, .nil => .nil
  | _, _, .cons h a => .cons (dp_same s h) (dpAll_same s a)
end
theorem dpAll_len : ∀ {vs : List V} {ds : List PyData}, DpAll K H vs ds → vs.length = ds.length
  | _, _, .nil => rfl
  | _, _, .cons _ a => by
    rw [List.length_cons, List.length_cons, dpAll_len a]
theorem dpAll_at : ∀ {vs : List V} {ds : List PyData}, DpAll K H vs ds → ∀ {i : Nat} {v : V}, vs[i]? = some v → ∃ d, ds[i]? = some d ∧ Dp K H v d
  | _, _, .cons h _, 0, _, e => ⟨_, rfl, by rw [← Option.some.inj e]; exact h⟩
  | _, _, .cons _ a, i + 1, _, e => dpAll_at a (i := i) e
theorem dpAll_snoc : ∀ {vs : List V} {ds : List PyData}, DpAll K H vs ds → ∀ {v : V} {d : PyData}, Dp K H v d → DpAll K H (vs ++ [v]) (ds ++ [d])
  | _, _, .nil, _, _, h => .cons h .nil
  | _, _, .cons h0 a, _, _, h => .cons h0 (dpAll_snoc a h)
theorem tyL {a : Addr} {xs : List V} (h : SqL K H a xs) : TyX K H (.ref a) (.type "list") := by
  rcases h with (h | ⟨o, h⟩) | ⟨o, its, n, l, c, _⟩
  · exact .base (.lst h)
  · exact .base (.frz h)
  · exact .kList l c
theorem tyT {a : Addr} {xs : List V} (h : SqT K H a xs) : TyX K H (.ref a) (.type "tuple") := by
  rcases h with (h | ⟨o, h⟩) | ⟨o, its, n, l, c, _⟩
  · exact .base (.tup h)
  · exact .fTuple h
  · exact .kTuple l c
theorem kitLT {t : String} {b : Bool} (h : kitB t "list" = some b) (h2 : b = false → kitB t "tuple" = some false) : PySem.W.kitAny K (.type t) [.type "list", .type "tuple"] = some b := by
  refine kitAny_cons (kit_ty h) (fun e => ?_) (fun e => e)
  rw [e]
  exact kitAny_cons (b := false) (kit_ty (h2 e)) (fun _ => kitAny_nil) (fun e => nomatch e)
end
/-- what is new in H', the address c left out -/
def Nw (H H' : Hp) : Hp := fun b => if H b = none then H' b else none
theorem Nw.sub {H H' : Hp} : Same (Nw H H') H' := fun b o e => by
  unfold Nw at e
  split at e
  · exact e
  · cases e
theorem Nw.mk {H H' : Hp} {b : Addr} {o : HO} (h : H b = none) (e : H' b = some o) : Nw H H' b = some o := by
  unfold Nw
  rw [if_pos h]
  exact e
theorem Nw.get {H H' : Hp} {b : Addr} {o : HO} (h : Nw H H' b = some o) : H b = none ∧ H' b = some o := by
  unfold Nw at h
  split at h
  · exact ⟨by assumption, h⟩
  · cases h
theorem kitLT2 {K : PySem.W.Frag} : PySem.W.kitAny K (.type "tuple") [.type "list", .type "tuple"] = some true :=
  kitAny_cons (b := false) (kit_ty (by decide +kernel)) (fun _ => kitAny_cons (b := true) (kit_ty (by decide +kernel)) (fun e => nomatch e) (fun _ => rfl)) (fun e => nomatch e)
def spOwnD (K : PySem.W.Frag) (n : Nat) : Sp := fun vs H Q _ => ∃ (x : V) (d : PyData), vs = [x] ∧ Dp K H x d ∧ Sm n d ∧ ∀ (H' : Hp) (y : V), Same H H' → Dp K (Nw H H') y d → Q y H'
section
variable {P : Program} {w : World} {K : PySem.W.Frag} {mg : Str → Option Value} {base : Heap}
theorem own_flat (T : Ot mg) (f : Addr) (cdv : Value) (A : Around) (outer : List Env) (s : Shared) (H : Hp) (Q : VK) (E : XK) {x : V} {t : String} (ty : ∀ H', TyX K H' x (.type t)) (k1 : kitB t "list" = some false) (k2 : kitB t "tuple" = some false) (q : ∀ H', Same H H' → Q x H') :
    ∃ t, PSs (cxOf CX0 P w K mg base N_own_copy "own_copy" (defScope s_own_copy) f cdv A outer s H E).nox (defBody s_own_copy) t ∧ t { nx := fun _ H' => Q .non H', rt := Q } (start N_own_copy [x]) H := by
  refine ⟨_, (pss_cons (ps_if (pt_not (pt_val (pe_callB call_isiT (by rfl) T.isinstance (by decide +kernel) (pa_cons (pv 0) (pa_cons (pe_tup (pa_cons (pe_bltn (v := .ty "list") rfl T.list (by decide +kernel) rfl) (pa_cons (pe_bltn (v := .ty "tuple") rfl T.tuple (by decide +kernel) rfl) pa_nil))) pa_nil)))))
      (pss_one (ps_ret (pv 0))) pss_nil) (pss_cons ps_never (pss_cons ps_never (pss_cons ps_never (pss_one ps_never))))), ?_⟩
  refine ⟨_, rfl, by show 2 ≤ sizeLine; decide, fun tp nt => ?_⟩
  refine ⟨x, tp, _, .type t, [.type "list", .type "tuple"], false, rfl, upd_same, .cons (.ty "list") (.cons (.ty "tuple") .nil), ty _, kitLT k1 (fun _ => k2), _, rfl, ?_⟩
  exact iteT ⟨_, rfl, q _ (same_upd nt)⟩
theorem ok_ownD (T : Ot mg) (D : Dd K mg "own_copy" s_own_copy P_own_copy) : ∀ n, C8.Cal P w K mg base (n + 1) "own_copy" (spOwnD K n) [] := by
  intro n
  induction n with
  | zero =>
    refine D.cal sc_own_copy (fun vs H Q E h => ?_) (fun f cdv A outer s H vs Q E hr h => ?_)
    · obtain ⟨x, d, rfl, _⟩ := h
      rfl
    · obtain ⟨x, d, rfl, hx, hs, q⟩ := h
      cases hs with
      | non => cases hx; exact own_flat T f cdv A outer s H Q E (fun _ => .base .non) (by decide +kernel) (by decide +kernel) fun H' e => q H' _ e .non
      | bl _ b => cases hx; exact own_flat T f cdv A outer s H Q E (fun _ => .base (.bl b)) (by decide +kernel) (by decide +kernel) fun H' e => q H' _ e (.bl b)
      | int _ i => cases hx; exact own_flat T f cdv A outer s H Q E (fun _ => .base (.int i)) (by decide +kernel) (by decide +kernel) fun H' e => q H' _ e (.int i)
      | str _ z => cases hx; exact own_flat T f cdv A outer s H Q E (fun _ => .base (.str z)) (by decide +kernel) (by decide +kernel) fun H' e => q H' _ e (.str z)
  | succ n cown_copy =>
    refine D.cal sc_own_copy (fun vs H Q E h => ?_) (fun f cdv A outer s H vs Q E hr h => ?_)
    · obtain ⟨x, d, rfl, _⟩ := h
      rfl
    · obtain ⟨x, d, rfl, hx, hs, q⟩ := h
      cases hs with
      | non => cases hx; exact own_flat T f cdv A outer s H Q E (fun _ => .base .non) (by decide +kernel) (by decide +kernel) fun H' e => q H' _ e .non
      | bl _ b => cases hx; exact own_flat T f cdv A outer s H Q E (fun _ => .base (.bl b)) (by decide +kernel) (by decide +kernel) fun H' e => q H' _ e (.bl b)
      | int _ i => cases hx; exact own_flat T f cdv A outer s H Q E (fun _ => .base (.int i)) (by decide +kernel) (by decide +kernel) fun H' e => q H' _ e (.int i)
      | str _ z => cases hx; exact own_flat T f cdv A outer s H Q E (fun _ => .base (.str z)) (by decide +kernel) (by decide +kernel) fun H' e => q H' _ e (.str z)
      | lst _ hlen hall =>
        rename_i ds
        cases hx with
        | lst hS hd =>
          rename_i a xs
          refine ⟨_, (pss_cons (ps_if (pt_not (pt_val (pe_callB call_isiT (by rfl) T.isinstance (by decide +kernel) (pa_cons (pv 0) (pa_cons (pe_tup (pa_cons (pe_bltn (v := .ty "list") rfl T.list (by decide +kernel) rfl) (pa_cons (pe_bltn (v := .ty "tuple") rfl T.tuple (by decide +kernel) rfl) pa_nil))) pa_nil)))))
                (pss_one (ps_ret (pv 0)))
                pss_nil)
              (pss_cons (ps_set (i := 1) sc_own_copy.nd rfl (Or.inl rfl) (pe_lst pa_nil))
              (pss_cons (ps_for PassesOwn.never rfl (pi_list (pv 0)) (pg_name (i := 2) sc_own_copy.nd rfl (Or.inl rfl))
                (pss_one (ps_expr (pe_bm PySem.F.plainAttrs_list PySem.F.slot_list_append PySem.F.type_list_append mt_append (pv 1) (pa_cons (C8.pe_c cown_copy hr (by omega) (by rfl) (pa_cons (pv 2) pa_nil)) pa_nil)))))
              (pss_cons (ps_if (pt_val (pe_callB call_isi (by rfl) T.isinstance (by decide +kernel) (pa_cons (pv 0) (pa_cons (pe_bltn (v := .ty "tuple") rfl T.tuple (by decide +kernel) rfl) pa_nil))))
                (pss_one (ps_ret (pe_callTy call_tuple_of (by rfl) T.tuple (by decide +kernel) (pa_cons (pv 1) pa_nil))))
                pss_nil)
              (pss_one (ps_ret (pv 1))))))), ?_⟩
          have lx := dpAll_len hd
          refine ⟨_, rfl, by show 2 ≤ sizeLine; decide, fun tp nt => ?_⟩
          have s1 := same_upd (o := .tup [.ty "list", .ty "tuple"]) nt
          refine ⟨.ref a, tp, _, .type "list", [.type "list", .type "tuple"], true, rfl, upd_same, .cons (.ty "list") (.cons (.ty "tuple") .nil), tyL (Same.seqL s1 hS), kitLT (by decide +kernel) (fun e => nomatch e), _, rfl, iteF ?_⟩
          refine ⟨by show 0 ≤ sizeLine; decide, fun c nc => ?_⟩
          have s2 := s1.trans (same_upd (o := .lst []) nc)
          have nc0 : H c = none := s1.free nc
          refine ⟨_, rfl, a, rfl, ⟨_, Same.seqL s2 hS⟩, for_list (K := K) (a := a) (xs := xs) (fun i σ H3 => ∃ y2 ys, σ = [some (.ref a), some (.ref c), y2] ∧ Same H H3 ∧ H3 c = some (.lst ys) ∧ DpAll K (Nw (upd H c (.lst [])) H3) ys (ds.take i) ∧ i ≤ ds.length)
            ⟨none, [], rfl, s2, upd_same, .nil, by omega⟩ (fun i σ H3 _ ⟨_, _, _, s3, _⟩ => Same.seqL s3 hS) ?_ ?_⟩
          · rintro i x σ H3 hxi ⟨y2, ys, rfl, s3, hc, hys, hi⟩
            obtain ⟨d, hdi, hdp⟩ := dpAll_at hd hxi
            have hi2 : i < ds.length := (List.getElem?_eq_some_iff.mp hdi).1
            have ly := dpAll_len hys
            rw [List.length_take] at ly
            refine ⟨_, rfl, .inl ⟨rfl, _, SqL.of hc⟩, _, rfl, x, d, rfl, dp_same s3 hdp, hall d (List.mem_of_getElem? hdi), fun H4 y s4 hy => ?_⟩
            refine ⟨c, ys, y, rfl, rfl, s4 _ _ hc, small1000 (by omega), ?_⟩
            refine ⟨_, ys ++ [y], rfl, fun b o e => ?_, upd_same, ?_, by omega⟩
            · rw [upd_ne (ne_of_none e nc0)]
              exact s4 _ _ (s3 _ _ e)
            · rw [List.take_add_one, hdi]
              refine dpAll_snoc (dpAll_same (fun b o e => ?_) hys) (dp_same (fun b o e => ?_) hy)
              · obtain ⟨e1, e2⟩ := Nw.get e
                have nb : b ≠ c := fun z => by
                  rw [z, upd_same] at e1
                  cases e1
                exact Nw.mk e1 (by rw [upd_ne nb]; exact s4 _ _ e2)
              · obtain ⟨e1, e2⟩ := Nw.get e
                have nb : b ≠ c := fun z => by
                  rw [z, hc] at e1
                  cases e1
                exact Nw.mk (by rw [upd_ne nb]; exact s3.free e1) (by rw [upd_ne nb]; exact e2)
          · rintro σ H3 ⟨y2, ys, rfl, s3, hc, hys, _⟩
            rw [lx, List.take_length] at hys
            have toN : ∀ H5, Same H3 H5 → Same (Nw (upd H c (.lst [])) H3) (Nw H H5) := fun H5 s5 b o e => by
              obtain ⟨e1, e2⟩ := Nw.get e
              have nb : b ≠ c := fun z => by
                rw [z, upd_same] at e1
                cases e1
              rw [upd_ne nb] at e1
              exact Nw.mk e1 (s5 _ _ e2)
            refine ⟨_, rfl, .ref a, .ty "tuple", .type "list", .type "tuple", false, rfl, .ty "tuple", tyL (Same.seqL s3 hS), kit_ty (by decide +kernel), _, rfl, iteF ?_⟩
            exact ⟨_, rfl, q _ _ s3 (.lst (SqL.of (Nw.mk nc0 hc)) (dpAll_same (toN _ (Same.refl _)) hys))⟩
      | tup _ hlen hall =>
        rename_i ds
        cases hx with
        | tup hS hd =>
          rename_i a xs
          refine ⟨_, (pss_cons (ps_if (pt_not (pt_val (pe_callB call_isiT (by rfl) T.isinstance (by decide +kernel) (pa_cons (pv 0) (pa_cons (pe_tup (pa_cons (pe_bltn (v := .ty "list") rfl T.list (by decide +kernel) rfl) (pa_cons (pe_bltn (v := .ty "tuple") rfl T.tuple (by decide +kernel) rfl) pa_nil))) pa_nil)))))
                (pss_one (ps_ret (pv 0)))
                pss_nil)
              (pss_cons (ps_set (i := 1) sc_own_copy.nd rfl (Or.inl rfl) (pe_lst pa_nil))
              (pss_cons (ps_for PassesOwn.never rfl (pi_tup (pv 0)) (pg_name (i := 2) sc_own_copy.nd rfl (Or.inl rfl))
                (pss_one (ps_expr (pe_bm PySem.F.plainAttrs_list PySem.F.slot_list_append PySem.F.type_list_append mt_append (pv 1) (pa_cons (C8.pe_c cown_copy hr (by omega) (by rfl) (pa_cons (pv 2) pa_nil)) pa_nil)))))
              (pss_cons (ps_if (pt_val (pe_callB call_isi (by rfl) T.isinstance (by decide +kernel) (pa_cons (pv 0) (pa_cons (pe_bltn (v := .ty "tuple") rfl T.tuple (by decide +kernel) rfl) pa_nil))))
                (pss_one (ps_ret (pe_callTy call_tuple_of (by rfl) T.tuple (by decide +kernel) (pa_cons (pv 1) pa_nil))))
                pss_nil)
              (pss_one (ps_ret (pv 1))))))), ?_⟩
          have lx := dpAll_len hd
          refine ⟨_, rfl, by show 2 ≤ sizeLine; decide, fun tp nt => ?_⟩
          have s1 := same_upd (o := .tup [.ty "list", .ty "tuple"]) nt
          refine ⟨.ref a, tp, _, .type "tuple", [.type "list", .type "tuple"], true, rfl, upd_same, .cons (.ty "list") (.cons (.ty "tuple") .nil), tyT (Same.seqT s1 hS), kitLT2, _, rfl, iteF ?_⟩
          refine ⟨by show 0 ≤ sizeLine; decide, fun c nc => ?_⟩
          have s2 := s1.trans (same_upd (o := .lst []) nc)
          have nc0 : H c = none := s1.free nc
          refine ⟨_, rfl, a, rfl, ⟨_, Same.seqT s2 hS⟩, for_tup (K := K) (a := a) (xs := xs) (fun i σ H3 => ∃ y2 ys, σ = [some (.ref a), some (.ref c), y2] ∧ Same H H3 ∧ H3 c = some (.lst ys) ∧ DpAll K (Nw (upd H c (.lst [])) H3) ys (ds.take i) ∧ i ≤ ds.length)
            ⟨none, [], rfl, s2, upd_same, .nil, by omega⟩ (fun i σ H3 _ ⟨_, _, _, s3, _⟩ => Same.seqT s3 hS) ?_ ?_⟩
          · rintro i x σ H3 hxi ⟨y2, ys, rfl, s3, hc, hys, hi⟩
            obtain ⟨d, hdi, hdp⟩ := dpAll_at hd hxi
            have hi2 : i < ds.length := (List.getElem?_eq_some_iff.mp hdi).1
            have ly := dpAll_len hys
            rw [List.length_take] at ly
            refine ⟨_, rfl, .inl ⟨rfl, _, SqL.of hc⟩, _, rfl, x, d, rfl, dp_same s3 hdp, hall d (List.mem_of_getElem? hdi), fun H4 y s4 hy => ?_⟩
            refine ⟨c, ys, y, rfl, rfl, s4 _ _ hc, small1000 (by omega), ?_⟩
            refine ⟨_, ys ++ [y], rfl, fun b o e => ?_, upd_same, ?_, by omega⟩
            · rw [upd_ne (ne_of_none e nc0)]
              exact s4 _ _ (s3 _ _ e)
            · rw [List.take_add_one, hdi]
              refine dpAll_snoc (dpAll_same (fun b o e => ?_) hys) (dp_same (fun b o e => ?_) hy)
              · obtain ⟨e1, e2⟩ := Nw.get e
                have nb : b ≠ c := fun z => by
                  rw [z, upd_same] at e1
                  cases e1
                exact Nw.mk e1 (by rw [upd_ne nb]; exact s4 _ _ e2)
              · obtain ⟨e1, e2⟩ := Nw.get e
                have nb : b ≠ c := fun z => by
                  rw [z, hc] at e1
                  cases e1
                exact Nw.mk (by rw [upd_ne nb]; exact s3.free e1) (by rw [upd_ne nb]; exact e2)
          · rintro σ H3 ⟨y2, ys, rfl, s3, hc, hys, _⟩
            rw [lx, List.take_length] at hys
            have toN : ∀ H5, Same H3 H5 → Same (Nw (upd H c (.lst [])) H3) (Nw H H5) := fun H5 s5 b o e => by
              obtain ⟨e1, e2⟩ := Nw.get e
              have nb : b ≠ c := fun z => by
                rw [z, upd_same] at e1
                cases e1
              rw [upd_ne nb] at e1
              exact Nw.mk e1 (s5 _ _ e2)
            refine ⟨_, rfl, .ref a, .ty "tuple", .type "tuple", .type "tuple", true, rfl, .ty "tuple", tyT (Same.seqT s3 hS), kit_ty (by decide +kernel), _, rfl, iteT ?_⟩
            refine ⟨_, rfl, c, ys, rfl, .inl ⟨SqL.of hc, fun l nl => ?_⟩⟩
            exact q _ _ (s3.trans (same_upd nl)) (.tup (SqT.of (Nw.mk (s3.free nl) upd_same)) (dpAll_same (toN _ (same_upd nl)) hys))
end
/-! ### what is drawn: one of some, some in another order, numbers -/
theorem ifT {c : Bool} {A B : Prop} (h : c = true) (x : A) : if c = true then A else B := by rw [if_pos h]; exact x
theorem ifF {c : Bool} {A B : Prop} (h : c = false) (x : B) : if c = true then A else B := by rw [if_neg (by rw [h]; decide)]; exact x
theorem yesT {σ : L2.St} {H : Hp} {A B : Hp → Prop} (h : A H) : tYes σ H (fun b H3 => if b = true then A H3 else B H3) := by
  show (if true = true then A H else B H)
  exact iteT h
theorem Same.at_ {H0 H : Hp} {p : Addr} {o : HO} (s : Same H0 H) (n : H0 p = none) : Same H0 (upd H p o) := fun b x e => by
  rw [upd_ne (ne_of_none e n)]
  exact s b x e
theorem Same.new {H0 H : Hp} {p : Addr} {o : HO} (s : Same H0 H) (n : H p = none) : Same H0 (upd H p o) := s.trans (same_upd n)
theorem Same.but {H0 H H' : Hp} {a : Addr} (s : Same H0 H) (n : H0 a = none) (b : But a H H') : Same H0 H' := fun x o e => b x o (ne_of_none e n) (s x o e)
theorem BoxL.mono {n m : Nat} {b : List V} (h : BoxL n b) (l : n ≤ m) : BoxL m b := by
  obtain ⟨b0, b1, b2, e, h0, h1, h2, h3, h4⟩ := h
  exact ⟨b0, b1, b2, e, h0, h1, h2, h3, by omega⟩
theorem But.free {a b : Addr} {H H' : Hp} {o : HO} (x : But a H H') (ha : H' a = some o) (h : H' b = none) : H b = none := by
  cases e : H b with
  | none => rfl
  | some u =>
    by_cases z : b = a
    · rw [z, ha] at h
      cases h
    · rw [x b u z e] at h
      cases h
abbrev s__law_one_of : Stmt := top 27
abbrev N__law_one_of : List Str := ["_law_box", "_law_some"]
abbrev P__law_one_of : List Str := ["_law_box", "_law_some"]
theorem sc__law_one_of : FnScope N__law_one_of P__law_one_of (defScope s__law_one_of) := ⟨rfl, rfl, rfl, by decide +kernel, rfl, by decide +kernel, by decide +kernel⟩
abbrev s__law_number : Stmt := top 30
abbrev N__law_number : List Str := ["_law_box"]
abbrev P__law_number : List Str := ["_law_box"]
theorem sc__law_number : FnScope N__law_number P__law_number (defScope s__law_number) := ⟨rfl, rfl, rfl, by decide +kernel, rfl, by decide +kernel, by decide +kernel⟩
def spOneOf (K : PySem.W.Frag) : Sp := fun vs H Q _ => ∃ (a sl : Addr) (m : Nat) (b xs : List V), vs = [.ref a, .ref sl] ∧ H a = some (.lst b) ∧ BoxL m b ∧ m < 900000 ∧ SqL K H sl xs ∧ sl ≠ a ∧ 0 < xs.length ∧ xs.length ≤ 1000 ∧
  ∀ (i : Nat) (v : V) (b' : List V), xs[i]? = some v → BoxL (m + 1) b' → Q v (upd H a (.lst b'))
def spNumber : Sp := fun vs H Q _ => ∃ (a : Addr) (m : Nat) (b : List V), vs = [.ref a] ∧ H a = some (.lst b) ∧ BoxL m b ∧ m + 4 < 900000 ∧
  ∀ (H' : Hp) (r : Int) (b' : List V), But a H H' → H' a = some (.lst b') → BoxL (m + 4) b' → 0 ≤ r → r < 1000000 → Q (.int r) H'
section
variable {P : Program} {w : World} {K : PySem.W.Frag} {mg : Str → Option Value} {base : Heap}
theorem ok_one_of (T : Bt mg) (c_law_take : C8.Cal P w K mg base 1 "_law_take" spTake []) (D : Dd K mg "_law_one_of" s__law_one_of P__law_one_of) : C8.Cal P w K mg base 2 "_law_one_of" (spOneOf K) [] := by
  refine D.cal sc__law_one_of (fun vs H Q E h => ?_) (fun f cdv A outer s H vs Q E hr h => ?_)
  · obtain ⟨a, sl, m, b, xs, rfl, _⟩ := h
    rfl
  · obtain ⟨a, sl, m, b, xs, rfl, ha, hB, hm, hS, ns, h0, h1, q⟩ := h
    refine ⟨_, (pss_one (ps_ret (pe_ix ix_list (pv 1) (C8.pe_c c_law_take hr (by decide) (by rfl) (pa_cons (pv 0) (pa_cons (pe_callB call_len_seq (by rfl) T.len PySem.boot_len (pa_cons (pv 1) pa_nil)) pa_nil))) (fun _ _ => rfl)))), ?_⟩
    refine ⟨_, rfl, _, rfl, _, rfl, sl, xs, rfl, .inl hS, a, xs.length, m, b, rfl, ha, hB, by omega, by omega, by omega, fun r b' r0 r1 hB' => ?_⟩
    obtain ⟨i, rfl⟩ : ∃ i : Nat, r = (i : Int) := ⟨r.toNat, by omega⟩
    have hi : i < xs.length := by omega
    exact ⟨sl, xs, _, xs[i], rfl, rfl, But.seq (But.upd (But.refl a H)) ns hS, atI_nat (j := i) (by simp [hi]), q i _ b' (by simp [hi]) hB'⟩
theorem ok_number (c_law_take : C8.Cal P w K mg base 1 "_law_take" spTake []) (D : Dd K mg "_law_number" s__law_number P__law_number) : C8.Cal P w K mg base 2 "_law_number" spNumber [] := by
  refine D.cal sc__law_number (fun vs H Q E h => ?_) (fun f cdv A outer s H vs Q E hr h => ?_)
  · obtain ⟨a, m, b, rfl, _⟩ := h
    rfl
  · obtain ⟨a, m, b, rfl, ha, hB, hm, q⟩ := h
    refine ⟨_, (pss_one (ps_ret (pe_ix ix_list (pe_lst (pa_cons (C8.pe_c c_law_take hr (by decide) (by rfl) (pa_cons (pv 0) (pa_cons pe_int pa_nil))) (pa_cons (C8.pe_c c_law_take hr (by decide) (by rfl) (pa_cons (pv 0) (pa_cons pe_int pa_nil))) (pa_cons (C8.pe_c c_law_take hr (by decide) (by rfl) (pa_cons (pv 0) (pa_cons (pe_op op_pow pe_int pe_int) pa_nil))) pa_nil)))) (C8.pe_c c_law_take hr (by decide) (by rfl) (pa_cons (pv 0) (pa_cons pe_int pa_nil))) (fun _ _ => rfl)))), ?_⟩
    refine ⟨_, rfl, a, 4, m, b, rfl, ha, hB, by omega, by decide, by decide, fun r1 b1 r10 r11 hB1 => ?_⟩
    refine ⟨_, rfl, a, 30, m + 1, b1, rfl, upd_same, hB1, by omega, by decide, by decide, fun r2 b2 r20 r21 hB2 => ?_⟩
    refine ⟨_, rfl, _, _, rfl, rfl, ⟨by decide, by decide, by decide⟩, a, _, m + 2, b2, rfl, upd_same, hB2, by omega, by decide, by decide, fun r3 b3 r30 r31 hB3 => ?_⟩
    refine ⟨by show 3 ≤ sizeLine; decide, fun l nl => ?_⟩
    have nla : l ≠ a := fun z => by
      rw [z, upd_same] at nl
      cases nl
    refine ⟨_, rfl, a, 3, m + 3, b3, rfl, by rw [upd_ne nla.symm, upd_same], hB3, by omega, by decide, by decide, fun r4 b4 r40 r41 hB4 => ?_⟩
    have hl : (upd (upd (upd (upd (upd H a (.lst b1)) a (.lst b2)) a (.lst b3)) l (.lst [.int r1, .int r2, .int r3])) a (.lst b4)) l = some (.lst [.int r1, .int r2, .int r3]) := by
      rw [upd_ne nla, upd_same]
    have bt : But a H (upd (upd (upd (upd (upd H a (.lst b1)) a (.lst b2)) a (.lst b3)) l (.lst [.int r1, .int r2, .int r3])) a (.lst b4)) := But.upd (But.new (But.upd (But.upd (But.upd (But.refl a H)))) nl)
    have r31' : r3 < 1000000 := r31
    have hc : r4 = 0 ∨ r4 = 1 ∨ r4 = 2 := by omega
    rcases hc with rfl | rfl | rfl
    · exact ⟨l, _, _, _, rfl, rfl, SqL.of hl, atI_nat (j := 0) rfl, q _ _ b4 bt upd_same hB4 r10 (by omega)⟩
    · exact ⟨l, _, _, _, rfl, rfl, SqL.of hl, atI_nat (j := 1) rfl, q _ _ b4 bt upd_same hB4 r20 (by omega)⟩
    · exact ⟨l, _, _, _, rfl, rfl, SqL.of hl, atI_nat (j := 2) rfl, q _ _ b4 bt upd_same hB4 r30 r31'⟩
end
/-! ### names -/
abbrev s__law_named : Stmt := top 29
abbrev N__law_named : List Str := ["_law_box", "_law_many", "_law_letters", "_law_found", "_law_words", "_law_k", "_law_name", "_law_turn"]
abbrev P__law_named : List Str := ["_law_box", "_law_many"]
theorem sc__law_named : FnScope N__law_named P__law_named (defScope s__law_named) := ⟨rfl, rfl, rfl, by decide +kernel, rfl, by decide +kernel, by decide +kernel⟩
def Nm (z : Str) : Prop := z.length ≤ 6 ∧ ∀ c ∈ z.cps.toList, c < 128
def LET : Str := "abcdefghijklmnopqrstuvwxyz"
theorem let_len : LET.cps.toList.length = 26 := by decide +kernel
theorem let_at {r : Int} (h0 : 0 ≤ r) (h1 : r < 26) : ∃ c, atI LET.cps.toList r = some c ∧ c < 128 := by
  obtain ⟨i, rfl⟩ : ∃ i : Nat, r = (i : Int) := ⟨r.toNat, by omega⟩
  have hi : i < LET.cps.toList.length := by
    rw [let_len]
    omega
  refine ⟨LET.cps.toList[i], atI_nat (by simp [hi]), ?_⟩
  have hall : LET.cps.toList.all (fun c => decide (c < 128)) = true := by decide +kernel
  exact of_decide_eq_true (List.all_eq_true.mp hall _ (List.getElem_mem hi))
theorem nm_one {c : Nat} (h : c < 128) : Nm ⟨#[c]⟩ := ⟨by show 1 ≤ 6; decide, fun x hx => by
  have e : x = c := by simpa using hx
  rw [e]
  exact h⟩
/-- single signs joined -/
theorem nm_join {ys : List Str} (hl : ys.length ≤ 6) (h : ∀ z ∈ ys, z.length = 1 ∧ ∀ c ∈ z.cps.toList, c < 128) : Nm (Txt.join "" ys) := by
  have e : (Txt.join "" ys).cps.toList = (ys.map fun z => z.cps.toList).flatten := by
    have hj : ∀ ps : List (List Nat), TL.joinL [] ps = ps.flatten := fun ps => by
      induction ps with
      | nil => rfl
      | cons p r ih =>
        cases r with
        | nil => simp [TL.joinL]
        | cons q r =>
          show p ++ ([] ++ TL.joinL [] (q :: r)) = _
          rw [ih]
          rfl
    have hg : Txt.join "" ys = Str.join "" ys := PySem.StrLaws.glued_eq_join "" ys
    rw [hg]
    exact (TL.tl_join "" ys).trans (hj _)
  refine ⟨?_, fun c hc => ?_⟩
  · show (Txt.join "" ys).cps.size ≤ 6
    rw [← Array.length_toList, e, List.length_flatten]
    have hs : ∀ zs : List Str, (∀ z ∈ zs, z.length = 1) → ((zs.map fun z => z.cps.toList).map List.length).sum = zs.length := fun zs => by
      induction zs with
      | nil => intro _; rfl
      | cons z r ih =>
        intro hz
        have h1 : z.cps.toList.length = 1 := by
          rw [Array.length_toList]
          exact hz z (List.mem_cons_self ..)
        rw [List.map_cons, List.map_cons, List.sum_cons, h1, ih fun y hy => hz y (List.mem_cons_of_mem _ hy), List.length_cons]
        omega
    rw [hs ys fun z hz => (h z hz).1]
    exact hl
  · rw [e, List.mem_flatten] at hc
    obtain ⟨l, hl1, hl2⟩ := hc
    obtain ⟨z, hz1, rfl⟩ := List.mem_map.mp hl1
    exact (h z hz1).2 c hl2
theorem nm_more {z : Str} {c d : Nat} (h : Nm z) (hc : c < 128) (hd : d < 128) : Nm (cutS z none (some 4) ++ ⟨#[c]⟩ ++ ⟨#[d]⟩) := by
  have e : (cutS z none (some 4) ++ ⟨#[c]⟩ ++ ⟨#[d]⟩ : Str).cps.toList = (cutS z none (some 4)).cps.toList ++ [c] ++ [d] := by
    show ((cutS z none (some 4)).cps ++ #[c] ++ #[d]).toList = _
    rw [Array.toList_append, Array.toList_append]
  have e2 : (cutS z none (some 4)).cps.toList = z.cps.toList.take (HT.sIx z.length z.length (some 4)) := by
    show ((z.cps.toList.drop (HT.sIx z.length 0 none)).take (HT.sIx z.length z.length (some 4) - HT.sIx z.length 0 none)) = _
    rw [HT.sIx_none, List.drop_zero, Nat.sub_zero]
  have e3 : HT.sIx z.length z.length (some 4) ≤ 4 := by
    rw [show HT.sIx z.length z.length (some (4 : Int)) = min 4 z.length from HT.sIx_nat _ _ 4]
    omega
  refine ⟨?_, fun x hx => ?_⟩
  · show (cutS z none (some 4) ++ ⟨#[c]⟩ ++ ⟨#[d]⟩ : Str).cps.size ≤ 6
    rw [← Array.length_toList, e, e2, List.length_append, List.length_append, List.length_take, List.length_singleton, List.length_singleton]
    omega
  · rw [e, List.mem_append, List.mem_append] at hx
    rcases hx with (hx | hx) | hx
    · rw [e2] at hx
      exact h.2 x (List.mem_of_mem_take hx)
    · rw [List.mem_singleton.mp hx]
      exact hc
    · rw [List.mem_singleton.mp hx]
      exact hd
def WORDS : Str := "copy plus less over rest least same pick sort make rule cap kept at number lay put end ask tree"
theorem words_nm : (Txt.split WORDS " ").length = 20 ∧ ∀ z ∈ Txt.split WORDS " ", Nm z := by
  have hall : (Txt.split WORDS " ").length = 20 ∧ (Txt.split WORDS " ").all (fun z => decide (z.length ≤ 6) && z.cps.toList.all fun c => decide (c < 128)) = true := by decide +kernel
  refine ⟨hall.1, fun z hz => ?_⟩
  have hh := List.all_eq_true.mp hall.2 z hz
  simp only [Bool.and_eq_true, decide_eq_true_eq] at hh
  exact ⟨hh.1, fun c hc => of_decide_eq_true (List.all_eq_true.mp hh.2 c hc)⟩
def spNamed : Sp := fun vs H Q _ => ∃ (a : Addr) (many m : Nat) (b : List V), vs = [.ref a, .int many] ∧ many ≤ 20 ∧ H a = some (.lst b) ∧ BoxL m b ∧ m + 10 * many < 900000 ∧
  ∀ (H' : Hp) (l : Addr) (zs : List Str) (b' : List V), But a H H' → H l = none → H' l = some (.lst (zs.map V.str)) → zs.length = many → (∀ z ∈ zs, Nm z) → H' a = some (.lst b') → BoxL (m + 10 * many) b' → Q (.ref l) H'
theorem flat_strs : ∀ zs : List Str, (zs.map V.str).all flatV = true
  | [] => rfl
  | z :: zs => by
    rw [List.map_cons, List.all_cons, flat_strs zs]
    rfl
section
variable {P : Program} {w : World} {K : PySem.W.Frag} {mg : Str → Option Value} {base : Heap}
theorem ok_named (T : Bt mg) (c_law_take : C8.Cal P w K mg base 1 "_law_take" spTake []) (D : Dd K mg "_law_named" s__law_named P__law_named) : C8.Cal P w K mg base 2 "_law_named" spNamed [] := by
  refine D.cal sc__law_named (fun vs H Q E h => ?_) (fun f cdv A outer s H vs Q E hr h => ?_)
  · obtain ⟨a, many, m, b, rfl, _⟩ := h
    rfl
  · obtain ⟨a, many, m, b, rfl, hmany, ha, hB, hm, q⟩ := h
    refine ⟨_, (pss_cons (ps_asg (pe_tup (pa_cons pe_str (pa_cons (pe_lst pa_nil) pa_nil))) (pg_tup rfl (pgs_cons (pg_name (i := 2) sc__law_named.nd rfl (Or.inr rfl)) (pgs_cons (pg_name (i := 3) sc__law_named.nd rfl (Or.inl rfl)) pgs_nil))))
        (pss_cons (ps_set (i := 4) sc__law_named.nd rfl (Or.inl rfl) pe_str)
        (pss_cons (ps_for PassesOwn.never rfl (pi_range1 rfl T.range (pa_cons (pv 1) pa_nil)) (pg_name (i := 5) sc__law_named.nd rfl (Or.inl rfl))
          (pss_cons (ps_set (i := 6) sc__law_named.nd rfl (Or.inl rfl) (pe_bm PySem.F.plainAttrs_str PySem.F.slot_str_join PySem.F.type_str_join mt_join pe_str (pa_cons (pe_lc (own := [("_law_turn", 7)]) (by exact rfl) sc__law_named.nd (pi_range1 rfl T.range (pa_cons (pe_ix ix_list (pe_lst (pa_cons pe_int (pa_cons pe_int (pa_cons pe_int (pa_cons pe_int pa_nil))))) (C8.pe_c c_law_take hr (by decide) (by rfl) (pa_cons (pv 0) (pa_cons pe_int pa_nil))) (fun _ _ => rfl)) pa_nil)) (blkOk_by (own := [("_law_turn", 7)]) (N := N__law_named) (sc := defScope s__law_named) (by decide +kernel)) (fun _ _ _ _ _ => (pg_name (i := 7) sc__law_named.nd rfl (Or.inl rfl))) (fun _ _ _ _ _ => pts_nil) (fun _ _ _ _ _ => (pe_ix ix_str (pv 2) (C8.pe_c c_law_take hr (by decide) (by rfl) (pa_cons (pv 0) (pa_cons pe_int pa_nil))) (fun _ _ => rfl)))) pa_nil)))
        (C8.pss_cut (ps_if (pt_cmpR op_eq (C8.pe_c c_law_take hr (by decide) (by rfl) (pa_cons (pv 0) (pa_cons pe_int pa_nil))) pe_int (nomark _))
          (pss_one (ps_set (i := 6) sc__law_named.nd rfl (Or.inl rfl) (pe_ix ix_list (pe_bm PySem.F.plainAttrs_str PySem.F.slot_str_split PySem.F.type_str_split mt_split (pv 4) (pa_cons pe_str pa_nil)) (C8.pe_c c_law_take hr (by decide) (by rfl) (pa_cons (pv 0) (pa_cons pe_int pa_nil))) (fun _ _ => rfl))))
          pss_nil)
        (pss_cons (ps_for PassesOwn.never rfl (pi_range1 rfl T.range (pa_cons (pe_op op_add (pe_callB call_len_seq (by rfl) T.len PySem.boot_len (pa_cons (pv 3) pa_nil)) pe_int) pa_nil)) (pg_name (i := 7) sc__law_named.nd rfl (Or.inl rfl))
          (pss_one (ps_if (PW.pt (pw_or (pt_cmpR op_in_seq (pv 6) (pv 3) (by with_unfolding_all rfl)) (pw_or1 (pt_cmpR op_eq (pv 6) pe_str (nomark _)))))
          (pss_one (ps_set (i := 6) sc__law_named.nd rfl (Or.inl rfl) (pe_op op_add_str (pe_op op_add_str (pe_slice sl_str (pv 6) po_none (po_some pe_int)) (pe_ix ix_str (pv 2) (pe_op op_fdiv (pv 7) pe_int) (fun _ _ => rfl))) (pe_ix ix_str (pv 2) (pe_op op_mod (pv 7) pe_int) (fun _ _ => rfl)))))
          pss_nil)))
        (pss_one (ps_expr (pe_bm PySem.F.plainAttrs_list PySem.F.slot_list_append PySem.F.type_list_append mt_append (pv 3) (pa_cons (pv 6) pa_nil))))))))
        (pss_one (ps_ret (pv 3)))))), ?_⟩
    refine ⟨by show 0 ≤ sizeLine; decide, fun l nl => ⟨by show 2 ≤ sizeLine; decide, fun tp nt => ⟨tp, _, rfl, SqT.of upd_same, rfl, _, _, rfl, _, _, rfl, rfl, ?_⟩⟩⟩
    have nla : a ≠ l := ne_of_none ha nl
    have s1 := same_upd (o := .lst []) nl
    have s2 := same_upd (o := .tup [.str "abcdefghijklmnopqrstuvwxyz", .ref l]) nt
    have hl0 := s2 _ _ (upd_same (H := H) (a := l) (o := .lst []))
    have ha0 := s2 _ _ (s1 _ _ ha)
    have s12 := s1.trans s2
    obtain ⟨H0, e0⟩ : ∃ H0, H0 = upd (upd H l (.lst [])) tp (.tup [.str "abcdefghijklmnopqrstuvwxyz", .ref l]) := ⟨_, rfl⟩
    rw [← e0] at hl0 ha0 s12 ⊢
    refine ⟨_, rfl, _, rfl, by omega, by omega, ?_⟩
    refine for_range (lo := 0) (fun i σ H2 => ∃ y5 y6 y7 zs b', σ = [some (.ref a), some (.int many), some (.str "abcdefghijklmnopqrstuvwxyz"), some (.ref l), some (.str "copy plus less over rest least same pick sort make rule cap kept at number lay put end ask tree"), y5, y6, y7] ∧ But a H H2 ∧ H2 l = some (.lst (zs.map V.str)) ∧ zs.length = i ∧ (∀ z ∈ zs, Nm z) ∧ H2 a = some (.lst b') ∧ BoxL (m + 10 * i) b')
      ⟨none, none, none, [], b, rfl, But.of s12, hl0, rfl, (fun z hz => nomatch hz), ha0, hB⟩ ?_ ?_
    · rintro i σ H2 hi ⟨y5, y6, y7, zs, b2, rfl, bt2, hl2, hzl, hzs, hb2, hB2⟩
      rw [Int.zero_add]
      have hi' : i < 20 := by omega
      refine ⟨rfl, by show 4 ≤ sizeLine; decide, fun l4 n4 => ?_⟩
      have na4 : a ≠ l4 := ne_of_none hb2 n4
      refine ⟨_, rfl, a, 4, m + 10 * i, b2, rfl, same_upd n4 _ _ hb2, hB2, by omega, by decide, by decide, fun r4 b3 r40 r41 hB3 => ?_⟩
      obtain ⟨nn, hnn, hat⟩ : ∃ nn : Nat, nn ≤ 6 ∧ atI [V.int 1, .int 2, .int 3, .int 6] r4 = some (.int nn) := by
        have hc : r4 = 0 ∨ r4 = 1 ∨ r4 = 2 ∨ r4 = 3 := by omega
        rcases hc with rfl | rfl | rfl | rfl
        · exact ⟨1, by decide, atI_nat (j := 0) rfl⟩
        · exact ⟨2, by decide, atI_nat (j := 1) rfl⟩
        · exact ⟨3, by decide, atI_nat (j := 2) rfl⟩
        · exact ⟨6, by decide, atI_nat (j := 3) rfl⟩
      refine ⟨l4, _, _, _, rfl, rfl, SqL.of (by rw [upd_ne na4.symm, upd_same]), hat, nn, rfl, by omega, by omega, fun D nD => ?_⟩
      have hl3 : (upd (upd H2 l4 (.lst [.int 1, .int 2, .int 3, .int 6])) a (.lst b3)) l = some (.lst (zs.map V.str)) := by
        rw [upd_ne nla.symm]
        exact same_upd n4 _ _ hl2
      have hb3 : (upd (upd H2 l4 (.lst [.int 1, .int 2, .int 3, .int 6])) a (.lst b3)) a = some (.lst b3) := upd_same
      have bt3 : But a H (upd (upd H2 l4 (.lst [.int 1, .int 2, .int 3, .int 6])) a (.lst b3)) := But.upd (But.new bt2 n4)
      obtain ⟨Z, eZ⟩ : ∃ Z, Z = upd (upd H2 l4 (.lst [.int 1, .int 2, .int 3, .int 6])) a (.lst b3) := ⟨_, rfl⟩
      rw [← eZ] at nD hl3 hb3 bt3 ⊢
      have nDa : a ≠ D := ne_of_none hb3 nD
      refine lc_range (lo := 0) (n := (nn : Int).toNat) (fun j H' => But a Z H' ∧ ∃ b' ys, H' a = some (.lst b') ∧ BoxL (m + 10 * i + 1 + j) b' ∧ H' D = some (.lst (ys.map V.str)) ∧ ys.length = j ∧ ∀ z ∈ ys, z.length = 1 ∧ ∀ c ∈ z.cps.toList, c < 128)
        ⟨But.of (same_upd nD), b3, [], by rw [upd_ne nDa]; exact hb3, hB3, upd_same, rfl, (fun z hz => nomatch hz)⟩ ?_ ?_
      · rintro j H4 hj ⟨bt4, b4, ys, hb4, hB4, hD4, hyl, hys⟩
        refine ⟨rfl, yesT ?_⟩
        refine ⟨_, rfl, _, rfl, a, 26, _, b4, rfl, hb4, hB4, by omega, by decide, by decide, fun r b5 r0 r1 hB5 => ?_⟩
        obtain ⟨c, hc, c128⟩ := let_at r0 r1
        refine ⟨LET, r, c, rfl, rfl, by decide +kernel, hc, ?_⟩
        refine ⟨_, by rw [upd_ne nDa.symm]; exact hD4, by rw [List.length_map, hyl]; exact small1000 (by omega), ?_, b5, ys ++ [⟨#[c]⟩], by rw [upd_ne nDa, upd_same], hB5, by rw [upd_same, List.map_append]; rfl, by rw [List.length_append, hyl]; rfl, fun z hz => ?_⟩
        · refine fun x o nx hx => ?_
          rw [upd_ne (ne_of_none hx nD), upd_ne nx]
          exact bt4 _ _ nx hx
        · rcases List.mem_append.mp hz with h | h
          · exact hys z h
          · rw [List.mem_singleton.mp h]
            exact ⟨rfl, (nm_one c128).2⟩
      rintro H4 ⟨bt4, b4, ys, hb4, hB4, hD4, hyl, hys⟩
      have hy6 : ys.length ≤ 6 := by omega
      have hB4 := hB4.mono (show m + 10 * i + 1 + (nn : Int).toNat ≤ m + 10 * i + 7 by omega)
      refine ⟨"", D, ys, rfl, rfl, .inl (SqL.of hD4), ?_, ?_⟩
      · have hs : ∀ zs : List Str, (∀ z ∈ zs, z.length = 1) → (zs.map fun x => x.length).sum = zs.length := fun zs => by
          induction zs with
          | nil => intro _; rfl
          | cons z r ih =>
            intro hz
            rw [List.map_cons, List.sum_cons, hz z (List.mem_cons_self ..), ih fun y hy => hz y (List.mem_cons_of_mem _ hy), List.length_cons]
            omega
        rw [hs ys fun z hz => (hys z hz).1, show (("" : String) : Str).length = 0 from rfl]
        omega
      have nm0 := nm_join hy6 hys
      have hl4 := bt4 _ _ nla.symm hl3
      have btA := bt3.trans bt4
      refine ⟨fun σ H5 => ∃ z b5, σ = [some (.ref a), some (.int many), some (.str "abcdefghijklmnopqrstuvwxyz"), some (.ref l), some (.str "copy plus less over rest least same pick sort make rule cap kept at number lay put end ask tree"), some (.int i), some (.str z), y7] ∧ Nm z ∧ But a H H5 ∧ H5 l = some (.lst (zs.map V.str)) ∧ H5 a = some (.lst b5) ∧ BoxL (m + 10 * i + 9) b5, ?_, ?_⟩
      · refine ⟨_, rfl, a, 12, m + 10 * i + 7, b4, rfl, hb4, hB4, by omega, by decide, by decide, fun r b5 r0 r1 hB5 => ⟨rfl, _, rfl, ?_⟩⟩
        have hl5 : (upd H4 a (.lst b5)) l = some (.lst (zs.map V.str)) := by
          rw [upd_ne nla.symm]
          exact hl4
        have bt5 : But a H (upd H4 a (.lst b5)) := But.upd btA
        by_cases e : r = 0
        · refine ifT (decide_eq_true (by rw [e])) ?_
          refine ⟨_, rfl, rfl, WORDS, " ", rfl, rfl, rfl, by decide +kernel, fun p np => ?_⟩
          have npa : a ≠ p := fun z => by
            rw [← z, upd_same] at np
            cases np
          refine ⟨_, rfl, a, 20, m + 10 * i + 8, b5, rfl, same_upd np _ _ upd_same, hB5, by omega, by decide, by decide, fun r2 b6 r20 r21 hB6 => ?_⟩
          obtain ⟨w20, wnm⟩ := words_nm
          obtain ⟨k, rfl⟩ : ∃ k : Nat, r2 = (k : Int) := ⟨r2.toNat, by omega⟩
          have hk : k < (Txt.split WORDS " ").length := by
            rw [w20]
            omega
          refine ⟨p, _, _, .str (Txt.split WORDS " ")[k], rfl, rfl, SqL.of (by rw [upd_ne npa.symm, upd_same]), atI_nat (j := k) (by rw [List.getElem?_map, List.getElem?_eq_getElem hk]; rfl), ?_⟩
          exact ⟨_, b6, rfl, wnm _ (List.getElem_mem hk), But.upd (But.new bt5 np), by rw [upd_ne nla.symm]; exact same_upd np _ _ hl5, upd_same, hB6⟩
        · exact ifF (decide_eq_false fun z => e (V.int.inj z)) ⟨_, b5, rfl, nm0, bt5, hl5, upd_same, hB5.mono (by omega)⟩
      · rintro σ H5 ⟨z0, b5, rfl, hz0, bt5, hl5, hb5, hB5⟩
        have hzl2 : ((zs.map V.str).length : Int) ≤ 20 := by
          rw [List.length_map]
          omega
        refine ⟨_, rfl, l, _, rfl, .inl (SqL.of hl5), _, _, rfl, rfl, _, rfl, by omega, by omega, ?_⟩
        refine for_range (lo := 0) (fun j σ H6 => H6 = H5 ∧ ∃ z y, σ = [some (.ref a), some (.int many), some (.str "abcdefghijklmnopqrstuvwxyz"), some (.ref l), some (.str "copy plus less over rest least same pick sort make rule cap kept at number lay put end ask tree"), some (.int i), some (.str z), y] ∧ Nm z) ⟨rfl, z0, y7, rfl, hz0⟩ ?_ ?_
        · rintro j σ H6 hj ⟨rfl, z, y, rfl, hz⟩
          rw [Int.zero_add]
          have hj2 : j < 26 := by omega
          obtain ⟨c1, hc1, k1⟩ := let_at (r := (j : Int) / 26) (by omega) (by omega)
          obtain ⟨c2, hc2, k2⟩ := let_at (r := (j : Int) % 26) (by omega) (by omega)
          refine ⟨_, rfl, _, rfl, l, _, rfl, .inl (SqL.of hl5), rfl, flat_strs zs, _, rfl, ?_⟩
          cases hc : inV (.str z) (zs.map V.str) with
          | true =>
            refine ifT rfl (iteT ?_)
            -- the name's first four signs, and two letters
            refine ⟨_, rfl, 4, rfl, z, rfl, Nat.le_trans hz.1 (by decide), ?_⟩
            refine ⟨_, rfl, _, rfl, _, _, rfl, rfl, ⟨by show (0 : Int) < 26; decide, by decide⟩, LET, _, c1, rfl, rfl, by decide +kernel, hc1, ?_⟩
            refine ⟨_, _, rfl, rfl, Nat.le_trans (show _ ≤ 7 from by
              have := cutS_length z none (some 4)
              have := hz.1
              show (cutS z none (some 4)).length + 1 ≤ 7
              omega) (by decide), ?_⟩
            refine ⟨_, rfl, _, rfl, _, _, rfl, rfl, (by show (0 : Int) < 26; decide), LET, _, c2, rfl, rfl, by decide +kernel, hc2, ?_⟩
            refine ⟨_, _, rfl, rfl, Nat.le_trans (show _ ≤ 8 from by
              have := cutS_length z none (some 4)
              have := hz.1
              rw [strLen_append]
              show (cutS z none (some 4)).length + 1 + 1 ≤ 8
              omega) (by decide), ?_⟩
            exact ⟨rfl, _, _, rfl, nm_more hz k1 k2⟩
          | false =>
            refine ifF rfl ?_
            refine ⟨_, rfl, rfl, _, rfl, ?_⟩
            by_cases e : z = ("own" : String)
            · refine ifT (decide_eq_true (congrArg V.str e)) ?_
              -- the name's first four signs, and two letters
              refine ⟨_, rfl, 4, rfl, z, rfl, Nat.le_trans hz.1 (by decide), ?_⟩
              refine ⟨_, rfl, _, rfl, _, _, rfl, rfl, ⟨by show (0 : Int) < 26; decide, by decide⟩, LET, _, c1, rfl, rfl, by decide +kernel, hc1, ?_⟩
              refine ⟨_, _, rfl, rfl, Nat.le_trans (show _ ≤ 7 from by
                have := cutS_length z none (some 4)
                have := hz.1
                show (cutS z none (some 4)).length + 1 ≤ 7
                omega) (by decide), ?_⟩
              refine ⟨_, rfl, _, rfl, _, _, rfl, rfl, (by show (0 : Int) < 26; decide), LET, _, c2, rfl, rfl, by decide +kernel, hc2, ?_⟩
              refine ⟨_, _, rfl, rfl, Nat.le_trans (show _ ≤ 8 from by
                have := cutS_length z none (some 4)
                have := hz.1
                rw [strLen_append]
                show (cutS z none (some 4)).length + 1 + 1 ≤ 8
                omega) (by decide), ?_⟩
              exact ⟨rfl, _, _, rfl, nm_more hz k1 k2⟩
            · exact ifF (decide_eq_false fun y => e (V.str.inj y)) ⟨rfl, _, _, rfl, hz⟩
        · rintro σ H6 ⟨rfl, z, y, rfl, hz⟩
          refine ⟨_, rfl, .inl ⟨rfl, _, SqL.of hl5⟩, _, rfl, l, _, .str z, rfl, rfl, hl5, by rw [List.length_map]; exact small1000 (by omega), ?_⟩
          refine ⟨_, _, _, zs ++ [z], b5, rfl, ?_, by rw [upd_same, List.map_append]; rfl, by rw [List.length_append, hzl]; rfl, fun x hx => ?_, by rw [upd_ne nla]; exact hb5, hB5.mono (by omega)⟩
          · refine fun x o nx hx => ?_
            rw [upd_ne (ne_of_none hx nl)]
            exact bt5 _ _ nx hx
          · rcases List.mem_append.mp hx with h | h
            · exact hzs x h
            · rw [List.mem_singleton.mp h]
              exact hz
    · rintro σ H2 ⟨y5, y6, y7, zs, b2, rfl, bt2, hl2, hzl, hzs, hb2, hB2⟩
      exact ⟨_, rfl, q _ l zs b2 bt2 nl hl2 hzl hzs hb2 hB2⟩
end
/-! ### trees of any names -/
abbrev s__law_wild : Stmt := top 31
abbrev N__law_wild : List Str := ["_law_box", "_law_names", "_law_room", "_law_deep", "_law_many", "_law_left", "_law_parts", "_law_k", "_law_some"]
abbrev P__law_wild : List Str := ["_law_box", "_law_names", "_law_room", "_law_deep"]
theorem sc__law_wild : FnScope N__law_wild P__law_wild (defScope s__law_wild) := ⟨rfl, rfl, rfl, by decide +kernel, rfl, by decide +kernel, by decide +kernel⟩
mutual
/-- a tree so deep, of so many nodes -/
inductive Tr : Nat → Nat → PyData → Prop where
  | mk {n k : Nat} {z : Str} {i : Int} {ds : List PyData} (hz : Nm z) (h0 : 0 ≤ i) (h1 : i < 1000000) (hl : ds.length ≤ 2) (h : TrAll n k ds) : Tr (n + 1) (k + 1) (.tuple [.str z, .int i, .tuple ds])
inductive TrAll : Nat → Nat → List PyData → Prop where
  | nil (n : Nat) : TrAll n 0 []
  | cons {n k k' : Nat} {d : PyData} {ds : List PyData} (h : Tr n k d) (a : TrAll n k' ds) : TrAll n (k + k') (d :: ds)
end
theorem TrAll.snoc : ∀ {n k : Nat} {ds : List PyData}, TrAll n k ds → ∀ {k' : Nat} {d : PyData}, Tr n k' d → TrAll n (k + k') (ds ++ [d])
  | _, _, _, .nil n, k', d, h => by
    rw [Nat.zero_add]
    exact (show TrAll n (k' + 0) [d] from .cons h (.nil n))
  | _, _, _, .cons h0 a, k', d, h => by
    rw [Nat.add_assoc]
    exact .cons h0 (TrAll.snoc a h)
def spWild (K : PySem.W.Frag) (n : Nat) : Sp := fun vs H Q _ => ∃ (a nl : Addr) (room deep : Int) (m : Nat) (b : List V) (zs : List Str), vs = [.ref a, .ref nl, .int room, .int deep] ∧ deep ≤ n ∧ 1 ≤ room ∧ room ≤ 1000 ∧ H a = some (.lst b) ∧ BoxL m b ∧ m + 9 * room.toNat < 900000 ∧
  SqL K H nl (zs.map V.str) ∧ nl ≠ a ∧ 0 < zs.length ∧ zs.length ≤ 1000 ∧ (∀ z ∈ zs, Nm z) ∧
  ∀ (H' : Hp) (v : V) (d : PyData) (k : Nat) (b' : List V), But a H H' → H' a = some (.lst b') → BoxL (m + 9 * room.toNat) b' → Dp K (Nw H H') v d → Tr (n + 1) k d → k ≤ room.toNat → Q v H'
structure Wl (mg : Str → Option Value) : Prop where
  range : mg "range" = none
  min : mg "min" = none
  tuple : mg "tuple" = none
section
variable {P : Program} {w : World} {K : PySem.W.Frag} {mg : Str → Option Value} {base : Heap}
theorem ok_wild (T : Wl mg) (c_law_take : C8.Cal P w K mg base 1 "_law_take" spTake []) (c_law_one_of : C8.Cal P w K mg base 2 "_law_one_of" (spOneOf K) []) (c_law_number : C8.Cal P w K mg base 2 "_law_number" spNumber [])
    (D : Dd K mg "_law_wild" s__law_wild P__law_wild) : ∀ n, C8.Cal P w K mg base (n + 3) "_law_wild" (spWild K n) [] := by
  intro n
  induction n with
  | zero =>
    refine D.cal sc__law_wild (fun vs H Q E h => ?_) (fun f cdv A outer s H vs Q E hr h => ?_)
    · obtain ⟨a, nl, room, deep, m, b, zs, rfl, _⟩ := h
      rfl
    · obtain ⟨a, nl, room, deep, m, b, zs, rfl, hdp, hr1, hr2, ha, hB, hm, hN, nn, z0, z1, hz, q⟩ := h
      refine ⟨_, (pss_cons (ps_par3 rfl sc__law_wild.nd (i := 4) (j := 5) (l := 6) rfl rfl rfl (by decide) (by decide) (by decide) rfl rfl rfl (pa_cons (pe_ifExp (pt_cmpR op_gt (pv 3) pe_int (nomark _)) (C8.pe_c c_law_take hr (by omega) (by rfl) (pa_cons (pv 0) (pa_cons pe_int pa_nil))) pe_int) (pa_cons (pe_op op_sub (pv 2) pe_int) (pa_cons (pe_lst pa_nil) pa_nil))) (by rfl))
          (pss_cons (ps_for PassesOwn.never rfl (pi_range1 rfl T.range (pa_cons (pe_callB (call_min2 rfl) (by rfl) T.min (by decide +kernel) (pa_cons (pv 4) (pa_cons (pv 5) pa_nil))) pa_nil)) (pg_name (i := 7) sc__law_wild.nd rfl (Or.inl rfl)) (pss_cons ps_never (pss_cons ps_never (pss_cons ps_never (pss_one ps_never)))))
          (pss_one (ps_ret (pe_tup (pa_cons (C8.pe_c c_law_one_of hr (by omega) (by rfl) (pa_cons (pv 0) (pa_cons (pv 1) pa_nil))) (pa_cons (pe_ix ix_list (pe_lst (pa_cons pe_int (pa_cons pe_int (pa_cons pe_int (pa_cons (C8.pe_c c_law_number hr (by omega) (by rfl) (pa_cons (pv 0) pa_nil)) pa_nil))))) (C8.pe_c c_law_take hr (by omega) (by rfl) (pa_cons (pv 0) (pa_cons pe_int pa_nil))) (fun _ _ => rfl)) (pa_cons (pe_callTy call_tuple_of (by rfl) T.tuple (by decide +kernel) (pa_cons (pv 6) pa_nil)) pa_nil)))))))), ?_⟩
      refine ⟨_, rfl, _, _, rfl, rfl, _, rfl, ifF (decide_eq_false (by omega)) ?_⟩
      refine ⟨_, rfl, _, _, rfl, rfl, by show 0 ≤ sizeLine; decide, fun L nLH => ⟨_, _, _, rfl, ?_⟩⟩
      have e0 : (if room - 1 < 0 then room - 1 else 0) = (0 : Int) := if_neg (by omega)
      refine ⟨_, rfl, _, rfl, _, _, rfl, _, rfl, by rw [e0]; decide, by rw [e0]; decide, ?_⟩
      refine for_range (lo := 0) (fun j σ H3 => σ = [some (.ref a), some (.ref nl), some (.int room), some (.int deep), some (.int 0), some (.int (room - 1)), some (.ref L), none, none] ∧ H3 = upd H L (.lst [])) ⟨rfl, rfl⟩ (fun i σ H3 hi _ => absurd hi (by rw [e0]; exact Nat.not_lt_zero i)) ?_
      rintro σ H3 ⟨rfl, rfl⟩
      have btZ : But a H (upd H L (.lst [])) := But.of (same_upd nLH)
      have hbZ := same_upd (o := .lst []) nLH _ _ ha
      have hBZ := hB
      have hL : (upd H L (.lst [])) L = some (.lst []) := upd_same
      obtain ⟨vs, ds, k, hL, dAll, trA, hl2, hk⟩ : ∃ (vs : List V) (ds : List PyData) (k : Nat), (upd H L (.lst [])) L = some (.lst vs) ∧ DpAll K (Nw H (upd H L (.lst []))) vs ds ∧ TrAll 0 k ds ∧ ds.length ≤ 2 ∧ k + 1 ≤ room.toNat := ⟨[], [], 0, hL, .nil, .nil 0, by decide, by omega⟩
      obtain ⟨Z, eZ⟩ : ∃ Z, Z = upd H L (.lst []) := ⟨_, rfl⟩
      rw [← eZ] at btZ hbZ hL dAll ⊢
      obtain ⟨m1, em⟩ : ∃ m1, m1 = m := ⟨_, rfl⟩
      rw [← em] at hBZ
      obtain ⟨b1, eb⟩ : ∃ b1, b1 = b := ⟨_, rfl⟩
      rw [← eb] at hbZ hBZ
      refine ⟨_, rfl, _, rfl, a, nl, m1, b1, zs.map V.str, rfl, hbZ, hBZ, by omega, But.seq btZ nn hN, nn, by rw [List.length_map]; exact z0, by rw [List.length_map]; exact z1, fun i v b2 hv hB2 => ?_⟩
      obtain ⟨z, hzi, rfl⟩ : ∃ z, zs[i]? = some z ∧ v = .str z := by
        rw [List.getElem?_map] at hv
        cases e : zs[i]? with
        | none => rw [e] at hv; cases hv
        | some t => rw [e] at hv; exact ⟨t, rfl, (Option.some.inj hv).symm⟩
      have nma := hz z (List.mem_of_getElem? hzi)
      refine ⟨_, rfl, a, m1 + 1, b2, rfl, upd_same, hB2, by omega, fun H3 r b3 bt3 hb3 hB3 r0 r1 => ?_⟩
      refine ⟨by show 4 ≤ sizeLine; decide, fun l4 n4 => ?_⟩
      have nl4 : a ≠ l4 := ne_of_none hb3 n4
      refine ⟨_, rfl, a, 4, m1 + 5, b3, rfl, same_upd n4 _ _ hb3, hB3, by omega, by decide, by decide, fun r4 b4 r40 r41 hB4 => ?_⟩
      obtain ⟨oi, o0, o1, hat⟩ : ∃ oi : Int, 0 ≤ oi ∧ oi < 1000000 ∧ atI [V.int 0, .int 0, .int 1, .int r] r4 = some (.int oi) := by
        have hc : r4 = 0 ∨ r4 = 1 ∨ r4 = 2 ∨ r4 = 3 := by omega
        rcases hc with rfl | rfl | rfl | rfl
        · exact ⟨0, by decide, by decide, atI_nat (j := 0) rfl⟩
        · exact ⟨0, by decide, by decide, atI_nat (j := 1) rfl⟩
        · exact ⟨1, by decide, by decide, atI_nat (j := 2) rfl⟩
        · exact ⟨r, r0, r1, atI_nat (j := 3) rfl⟩
      refine ⟨l4, _, _, _, rfl, rfl, SqL.of (by rw [upd_ne nl4.symm, upd_same]), hat, ?_⟩
      have nLa : L ≠ a := fun y => by
        rw [y, ha] at nLH
        cases nLH
      have btZ5 : But a Z (upd (upd H3 l4 (.lst [.int 0, .int 0, .int 1, .int r])) a (.lst b4)) := But.upd (But.new ((But.upd (But.refl a Z)).trans bt3) n4)
      have hb5 : (upd (upd H3 l4 (.lst [.int 0, .int 0, .int 1, .int r])) a (.lst b4)) a = some (.lst b4) := upd_same
      have hL5 := btZ5 _ _ nLa hL
      obtain ⟨Z5, e5⟩ : ∃ Z5, Z5 = upd (upd H3 l4 (.lst [.int 0, .int 0, .int 1, .int r])) a (.lst b4) := ⟨_, rfl⟩
      rw [← e5] at btZ5 hb5 hL5 ⊢
      refine ⟨_, rfl, L, vs, rfl, .inl ⟨SqL.of hL5, fun t nt => ?_⟩⟩
      refine ⟨by show 3 ≤ sizeLine; decide, fun p np => ?_⟩
      have k1 := same_upd (o := .tup vs) nt
      have k2 := same_upd (o := .tup [.str z, .int oi, .ref t]) np
      have kk := k1.trans k2
      have bt5 := btZ.trans btZ5
      have f1 : H t = none := But.free bt5 hb5 nt
      have f2 : H p = none := But.free (bt5.trans (But.of k1)) (k1 _ _ hb5) np
      have dA2 : DpAll K (Nw H (upd (upd Z5 t (.tup vs)) p (.tup [.str z, .int oi, .ref t]))) vs ds := dpAll_same (fun c o e => by
        obtain ⟨c1, c2⟩ := Nw.get e
        have nca : c ≠ a := fun y => by
          rw [y, ha] at c1
          cases c1
        exact Nw.mk c1 (kk _ _ (btZ5 _ _ nca c2))) dAll
      exact q _ _ _ (k + 1) b4 (bt5.trans (But.of kk)) (kk _ _ hb5) (hB4.mono (by omega)) (.tup (SqT.of (Nw.mk f2 upd_same)) (.cons (.str _) (.cons (.int _) (.cons (.tup (SqT.of (Nw.mk f1 (k2 _ _ upd_same))) dA2) .nil)))) (.mk nma o0 o1 hl2 trA) hk
  | succ n c_law_wild =>
    refine D.cal sc__law_wild (fun vs H Q E h => ?_) (fun f cdv A outer s H vs Q E hr h => ?_)
    · obtain ⟨a, nl, room, deep, m, b, zs, rfl, _⟩ := h
      rfl
    · obtain ⟨a, nl, room, deep, m, b, zs, rfl, hdp, hr1, hr2, ha, hB, hm, hN, nn, z0, z1, hz, q⟩ := h
      refine ⟨_, (pss_cons (ps_par3 rfl sc__law_wild.nd (i := 4) (j := 5) (l := 6) rfl rfl rfl (by decide) (by decide) (by decide) rfl rfl rfl (pa_cons (pe_ifExp (pt_cmpR op_gt (pv 3) pe_int (nomark _)) (C8.pe_c c_law_take hr (by omega) (by rfl) (pa_cons (pv 0) (pa_cons pe_int pa_nil))) pe_int) (pa_cons (pe_op op_sub (pv 2) pe_int) (pa_cons (pe_lst pa_nil) pa_nil))) (by rfl))
          (pss_cons (ps_for PassesOwn.never rfl (pi_range1 rfl T.range (pa_cons (pe_callB (call_min2 rfl) (by rfl) T.min (by decide +kernel) (pa_cons (pv 4) (pa_cons (pv 5) pa_nil))) pa_nil)) (pg_name (i := 7) sc__law_wild.nd rfl (Or.inl rfl))
            (C8.pss_cut (ps_set (i := 8) sc__law_wild.nd rfl (Or.inl rfl) (pe_ifExp (pt_cmpR op_eq (pe_op op_add (pv 7) pe_int) (pe_callB (call_min2 rfl) (by rfl) T.min (by decide +kernel) (pa_cons (pv 4) (pa_cons (pv 5) pa_nil))) (nomark _)) (pv 5) (pe_op op_add (C8.pe_c c_law_take hr (by omega) (by rfl) (pa_cons (pv 0) (pa_cons (pv 5) pa_nil))) pe_int)))
          (pss_cons (ps_set (i := 8) sc__law_wild.nd rfl (Or.inl rfl) (pe_callB (call_min2 rfl) (by rfl) T.min (by decide +kernel) (pa_cons (pv 8) (pa_cons (pe_op op_sub (pv 5) (pe_op op_sub (pe_op op_sub (pe_callB (call_min2 rfl) (by rfl) T.min (by decide +kernel) (pa_cons (pv 4) (pa_cons (pv 5) pa_nil))) (pv 7)) pe_int)) pa_nil))))
          (pss_cons (ps_expr (pe_bm PySem.F.plainAttrs_list PySem.F.slot_list_append PySem.F.type_list_append mt_append (pv 6) (pa_cons (C8.pe_c c_law_wild hr (by omega) (by rfl) (pa_cons (pv 0) (pa_cons (pv 1) (pa_cons (pv 8) (pa_cons (pe_op op_sub (pv 3) pe_int) pa_nil))))) pa_nil)))
          (pss_one (ps_set (i := 5) sc__law_wild.nd rfl (Or.inl rfl) (pe_op op_sub (pv 5) (pv 8))))))))
          (pss_one (ps_ret (pe_tup (pa_cons (C8.pe_c c_law_one_of hr (by omega) (by rfl) (pa_cons (pv 0) (pa_cons (pv 1) pa_nil))) (pa_cons (pe_ix ix_list (pe_lst (pa_cons pe_int (pa_cons pe_int (pa_cons pe_int (pa_cons (C8.pe_c c_law_number hr (by omega) (by rfl) (pa_cons (pv 0) pa_nil)) pa_nil))))) (C8.pe_c c_law_take hr (by omega) (by rfl) (pa_cons (pv 0) (pa_cons pe_int pa_nil))) (fun _ _ => rfl)) (pa_cons (pe_callTy call_tuple_of (by rfl) T.tuple (by decide +kernel) (pa_cons (pv 6) pa_nil)) pa_nil)))))))), ?_⟩
      by_cases dz : 0 < deep
      · refine ⟨_, rfl, _, _, rfl, rfl, _, rfl, ifT (decide_eq_true dz) ?_⟩
        refine ⟨_, rfl, a, 3, m, b, rfl, ha, hB, by omega, by decide, by decide, fun many b0 mn0 mn1 hB0 => ?_⟩
        refine ⟨_, rfl, _, _, rfl, rfl, by show 0 ≤ sizeLine; decide, fun L nL => ⟨_, _, _, rfl, ?_⟩⟩
        have nLa : L ≠ a := fun y => by
          rw [y, upd_same] at nL
          cases nL
        have nLH : H L = none := by
          rw [upd_ne nLa] at nL
          exact nL
        refine ⟨_, rfl, _, rfl, _, _, rfl, _, rfl, by split <;> omega, by split <;> omega, ?_⟩
        obtain ⟨KK, eK⟩ : ∃ KK : Int, KK = if room - 1 < many then room - 1 else many := ⟨_, rfl⟩
        have hK : 0 ≤ KK ∧ KK ≤ 2 ∧ (KK = 2 → many = 2 ∧ 2 ≤ room - 1) ∧ KK ≤ room - 1 := by
          rw [eK]
          split <;> omega
        rw [← eK]
        obtain ⟨hK0, hK2, hKm, hKr⟩ := hK
        refine for_range (lo := 0) (n := KK.toNat) (fun j σ H3 => ∃ left y7 y8 vs ds k b', σ = [some (.ref a), some (.ref nl), some (.int room), some (.int deep), some (.int many), some (.int left), some (.ref L), y7, y8] ∧ But a H H3 ∧ H3 a = some (.lst b') ∧ H3 L = some (.lst vs) ∧ vs.length = j ∧ DpAll K (Nw (upd H L (.lst [])) H3) vs ds ∧ TrAll (n + 1) k ds ∧ 0 ≤ left ∧ left ≤ room - 1 ∧ (k : Int) ≤ room - 1 - left ∧ (j < KK.toNat → 1 ≤ left) ∧ (j = 0 → left = room - 1) ∧ BoxL (m + 1 + j + 9 * (room - 1 - left).toNat) b')
          ⟨room - 1, none, none, [], [], 0, b0, rfl, But.new (But.upd (But.refl a H)) nL, by rw [upd_ne nLa.symm, upd_same], upd_same, rfl, .nil, .nil _, by omega, by omega, by omega, fun _ => by omega, fun _ => rfl, hB0.mono (by omega)⟩ ?_ ?_
        · rintro j σ H3 hj ⟨left, y7, y8, vs, ds, k, b3, rfl, bt3, hb3, hL3, hvl, hdp3, htr, l0, l1, hk, hl, hj0, hB3⟩
          rw [Int.zero_add]
          have hl := hl hj
          have hj2 : j < 2 := by omega
          refine ⟨fun σ H4 => ∃ s1 b4, σ = [some (.ref a), some (.ref nl), some (.int room), some (.int deep), some (.int many), some (.int left), some (.ref L), some (.int j), some (.int s1)] ∧ But a H3 H4 ∧ H4 a = some (.lst b4) ∧ 1 ≤ s1 ∧ s1 ≤ left ∧ BoxL (m + 1 + j + 9 * (room - 1 - left).toNat + 1) b4, ?_, ?_⟩
          · refine ⟨_, rfl, _, _, rfl, rfl, _, rfl, _, rfl, _, _, rfl, rfl, _, rfl, ?_⟩
            by_cases e : (j : Int) + 1 = (if left < many then left else many)
            · exact ifT (decide_eq_true (congrArg V.int e)) ⟨_, rfl, left, b3, rfl, But.refl a H3, hb3, hl, by omega, hB3.mono (by omega)⟩
            · refine ifF (decide_eq_false fun z => e (V.int.inj z)) ?_
              refine ⟨_, rfl, _, rfl, a, left, _, b3, rfl, hb3, hB3, by omega, by omega, by omega, fun r b4 r0 r1 hB4 => ⟨_, _, rfl, rfl, ?_⟩⟩
              exact ⟨r + 1, b4, rfl, But.upd (But.refl a H3), upd_same, by omega, by omega, hB4⟩
          · rintro σ H4 ⟨s1, b4, rfl, bt4, hb4, s10, s11, hB4⟩
            refine ⟨_, rfl, _, rfl, _, rfl, _, rfl, _, _, rfl, _, rfl, _, _, rfl, rfl, _, _, rfl, rfl, _, _, rfl, rfl, _, _, rfl, ?_⟩
            obtain ⟨s2, e2⟩ : ∃ s2 : Int, s2 = (if left - ((if left < many then left else many) - (j : Int) - 1) < s1 then left - ((if left < many then left else many) - (j : Int) - 1) else s1) := ⟨_, rfl⟩
            have hs2 : 1 ≤ s2 ∧ s2 ≤ left ∧ (j = 0 → KK = 2 → s2 ≤ left - 1) := by
              have hmn : (if left < many then left else many) ≤ left ∧ (if left < many then left else many) ≤ 2 ∧ (j = 0 → KK = 2 → (if left < many then left else many) = 2) := by
                split <;> refine ⟨by omega, by omega, fun h1 h2 => ?_⟩
                · have := hj0 h1
                  have := hKm h2
                  omega
                · have := hKm h2
                  omega
              obtain ⟨g1, g2, g3⟩ := hmn
              rw [e2]
              split
              · refine ⟨by omega, by omega, fun h1 h2 => ?_⟩
                have := g3 h1 h2
                omega
              · refine ⟨by omega, by omega, fun h1 h2 => ?_⟩
                have := g3 h1 h2
                omega
            rw [← e2]
            obtain ⟨s20, s21, s22⟩ := hs2
            have hL4 := bt4 _ _ nLa hL3
            refine ⟨_, rfl, .inl ⟨rfl, _, SqL.of hL4⟩, _, rfl, _, rfl, _, rfl, _, rfl, _, _, rfl, rfl, ?_⟩
            refine ⟨a, nl, s2, deep - 1, _, b4, zs, rfl, by omega, s20, by omega, hb4, hB4, by omega, But.seq (bt3.trans bt4) nn hN, nn, z0, z1, hz, fun H5 v d k2 b5 bt5 hb5 hB5 hv tr5 hk2 => ?_⟩
            have hL5 := bt5 _ _ nLa hL4
            refine ⟨L, vs, v, rfl, rfl, hL5, by rw [hvl]; exact small1000 (by omega), ?_⟩
            refine ⟨_, rfl, _, rfl, _, _, rfl, rfl, ?_⟩
            refine ⟨left - s2, _, _, vs ++ [v], ds ++ [d], k + k2, b5, rfl, ?_, by rw [upd_ne nLa.symm]; exact hb5, upd_same, by rw [List.length_append, hvl]; rfl, ?_, htr.snoc tr5, by omega, by omega, by omega, fun h => ?_, fun h => absurd h (by omega), hB5.mono (by omega)⟩
            · refine fun c o nc hc => ?_
              rw [upd_ne (ne_of_none hc nLH)]
              exact bt5 _ _ nc (bt4 _ _ nc (bt3 _ _ nc hc))
            · refine dpAll_snoc (dpAll_same (fun c o e => ?_) hdp3) (dp_same (fun c o e => ?_) hv)
              · obtain ⟨c1, c2⟩ := Nw.get e
                have nc : c ≠ L := fun z => by
                  rw [z, upd_same] at c1
                  cases c1
                have nca : c ≠ a := fun z => by
                  rw [z, upd_ne nLa.symm, ha] at c1
                  cases c1
                exact Nw.mk c1 (by rw [upd_ne nc]; exact bt5 _ _ nca (bt4 _ _ nca c2))
              · obtain ⟨c1, c2⟩ := Nw.get e
                have nc : c ≠ L := fun z => by
                  rw [z, hL4] at c1
                  cases c1
                exact Nw.mk (by rw [upd_ne nc]; exact But.free (bt3.trans bt4) hb4 c1) (by rw [upd_ne nc]; exact c2)
            · have h0 : j = 0 := by omega
              have := s22 h0 (by omega)
              omega
        · rintro σ Z ⟨left, y7, y8, vs, ds, k, b1, rfl, btZ, hbZ, hL, hvl, hdp3, trA, l0, l1, hk', hl, hj0, hBZ⟩
          have lds := dpAll_len hdp3
          have hl2 : ds.length ≤ 2 := by omega
          have hk : k + 1 ≤ room.toNat := by omega
          obtain ⟨m1, em⟩ : ∃ m1, m1 = m + 1 + KK.toNat + 9 * (room - 1 - left).toNat := ⟨_, rfl⟩
          rw [← em] at hBZ
          have dAll : DpAll K (Nw H Z) vs ds := dpAll_same (fun c o e => by
            obtain ⟨c1, c2⟩ := Nw.get e
            have nc : c ≠ L := fun z => by
              rw [z, upd_same] at c1
              cases c1
            rw [upd_ne nc] at c1
            exact Nw.mk c1 c2) hdp3
          refine ⟨_, rfl, _, rfl, a, nl, m1, b1, zs.map V.str, rfl, hbZ, hBZ, by omega, But.seq btZ nn hN, nn, by rw [List.length_map]; exact z0, by rw [List.length_map]; exact z1, fun i v b2 hv hB2 => ?_⟩
          obtain ⟨z, hzi, rfl⟩ : ∃ z, zs[i]? = some z ∧ v = .str z := by
            rw [List.getElem?_map] at hv
            cases e : zs[i]? with
            | none => rw [e] at hv; cases hv
            | some t => rw [e] at hv; exact ⟨t, rfl, (Option.some.inj hv).symm⟩
          have nma := hz z (List.mem_of_getElem? hzi)
          refine ⟨_, rfl, a, m1 + 1, b2, rfl, upd_same, hB2, by omega, fun H3 r b3 bt3 hb3 hB3 r0 r1 => ?_⟩
          refine ⟨by show 4 ≤ sizeLine; decide, fun l4 n4 => ?_⟩
          have nl4 : a ≠ l4 := ne_of_none hb3 n4
          refine ⟨_, rfl, a, 4, m1 + 5, b3, rfl, same_upd n4 _ _ hb3, hB3, by omega, by decide, by decide, fun r4 b4 r40 r41 hB4 => ?_⟩
          obtain ⟨oi, o0, o1, hat⟩ : ∃ oi : Int, 0 ≤ oi ∧ oi < 1000000 ∧ atI [V.int 0, .int 0, .int 1, .int r] r4 = some (.int oi) := by
            have hc : r4 = 0 ∨ r4 = 1 ∨ r4 = 2 ∨ r4 = 3 := by omega
            rcases hc with rfl | rfl | rfl | rfl
            · exact ⟨0, by decide, by decide, atI_nat (j := 0) rfl⟩
            · exact ⟨0, by decide, by decide, atI_nat (j := 1) rfl⟩
            · exact ⟨1, by decide, by decide, atI_nat (j := 2) rfl⟩
            · exact ⟨r, r0, r1, atI_nat (j := 3) rfl⟩
          refine ⟨l4, _, _, _, rfl, rfl, SqL.of (by rw [upd_ne nl4.symm, upd_same]), hat, ?_⟩
          have nLa : L ≠ a := fun y => by
            rw [y, ha] at nLH
            cases nLH
          have btZ5 : But a Z (upd (upd H3 l4 (.lst [.int 0, .int 0, .int 1, .int r])) a (.lst b4)) := But.upd (But.new ((But.upd (But.refl a Z)).trans bt3) n4)
          have hb5 : (upd (upd H3 l4 (.lst [.int 0, .int 0, .int 1, .int r])) a (.lst b4)) a = some (.lst b4) := upd_same
          have hL5 := btZ5 _ _ nLa hL
          obtain ⟨Z5, e5⟩ : ∃ Z5, Z5 = upd (upd H3 l4 (.lst [.int 0, .int 0, .int 1, .int r])) a (.lst b4) := ⟨_, rfl⟩
          rw [← e5] at btZ5 hb5 hL5 ⊢
          refine ⟨_, rfl, L, vs, rfl, .inl ⟨SqL.of hL5, fun t nt => ?_⟩⟩
          refine ⟨by show 3 ≤ sizeLine; decide, fun p np => ?_⟩
          have k1 := same_upd (o := .tup vs) nt
          have k2 := same_upd (o := .tup [.str z, .int oi, .ref t]) np
          have kk := k1.trans k2
          have bt5 := btZ.trans btZ5
          have f1 : H t = none := But.free bt5 hb5 nt
          have f2 : H p = none := But.free (bt5.trans (But.of k1)) (k1 _ _ hb5) np
          have dA2 : DpAll K (Nw H (upd (upd Z5 t (.tup vs)) p (.tup [.str z, .int oi, .ref t]))) vs ds := dpAll_same (fun c o e => by
            obtain ⟨c1, c2⟩ := Nw.get e
            have nca : c ≠ a := fun y => by
              rw [y, ha] at c1
              cases c1
            exact Nw.mk c1 (kk _ _ (btZ5 _ _ nca c2))) dAll
          exact q _ _ _ (k + 1) b4 (bt5.trans (But.of kk)) (kk _ _ hb5) (hB4.mono (by omega)) (.tup (SqT.of (Nw.mk f2 upd_same)) (.cons (.str _) (.cons (.int _) (.cons (.tup (SqT.of (Nw.mk f1 (k2 _ _ upd_same))) dA2) .nil)))) (.mk nma o0 o1 hl2 trA) hk
      · have dz' := dz
        refine ⟨_, rfl, _, _, rfl, rfl, _, rfl, ifF (decide_eq_false dz) ?_⟩
        refine ⟨_, rfl, _, _, rfl, rfl, by show 0 ≤ sizeLine; decide, fun L nLH => ⟨_, _, _, rfl, ?_⟩⟩
        have e0 : (if room - 1 < 0 then room - 1 else 0) = (0 : Int) := if_neg (by omega)
        refine ⟨_, rfl, _, rfl, _, _, rfl, _, rfl, by rw [e0]; decide, by rw [e0]; decide, ?_⟩
        refine for_range (lo := 0) (fun j σ H3 => σ = [some (.ref a), some (.ref nl), some (.int room), some (.int deep), some (.int 0), some (.int (room - 1)), some (.ref L), none, none] ∧ H3 = upd H L (.lst [])) ⟨rfl, rfl⟩ (fun i σ H3 hi _ => absurd hi (by rw [e0]; exact Nat.not_lt_zero i)) ?_
        rintro σ H3 ⟨rfl, rfl⟩
        have btZ : But a H (upd H L (.lst [])) := But.of (same_upd nLH)
        have hbZ := same_upd (o := .lst []) nLH _ _ ha
        have hBZ := hB
        have hL : (upd H L (.lst [])) L = some (.lst []) := upd_same
        obtain ⟨vs, ds, k, hL, dAll, trA, hl2, hk⟩ : ∃ (vs : List V) (ds : List PyData) (k : Nat), (upd H L (.lst [])) L = some (.lst vs) ∧ DpAll K (Nw H (upd H L (.lst []))) vs ds ∧ TrAll (n + 1) k ds ∧ ds.length ≤ 2 ∧ k + 1 ≤ room.toNat := ⟨[], [], 0, hL, .nil, .nil (n + 1), by decide, by omega⟩
        obtain ⟨Z, eZ⟩ : ∃ Z, Z = upd H L (.lst []) := ⟨_, rfl⟩
        rw [← eZ] at btZ hbZ hL dAll ⊢
        obtain ⟨m1, em⟩ : ∃ m1, m1 = m := ⟨_, rfl⟩
        rw [← em] at hBZ
        obtain ⟨b1, eb⟩ : ∃ b1, b1 = b := ⟨_, rfl⟩
        rw [← eb] at hbZ hBZ
        refine ⟨_, rfl, _, rfl, a, nl, m1, b1, zs.map V.str, rfl, hbZ, hBZ, by omega, But.seq btZ nn hN, nn, by rw [List.length_map]; exact z0, by rw [List.length_map]; exact z1, fun i v b2 hv hB2 => ?_⟩
        obtain ⟨z, hzi, rfl⟩ : ∃ z, zs[i]? = some z ∧ v = .str z := by
          rw [List.getElem?_map] at hv
          cases e : zs[i]? with
          | none => rw [e] at hv; cases hv
          | some t => rw [e] at hv; exact ⟨t, rfl, (Option.some.inj hv).symm⟩
        have nma := hz z (List.mem_of_getElem? hzi)
        refine ⟨_, rfl, a, m1 + 1, b2, rfl, upd_same, hB2, by omega, fun H3 r b3 bt3 hb3 hB3 r0 r1 => ?_⟩
        refine ⟨by show 4 ≤ sizeLine; decide, fun l4 n4 => ?_⟩
        have nl4 : a ≠ l4 := ne_of_none hb3 n4
        refine ⟨_, rfl, a, 4, m1 + 5, b3, rfl, same_upd n4 _ _ hb3, hB3, by omega, by decide, by decide, fun r4 b4 r40 r41 hB4 => ?_⟩
        obtain ⟨oi, o0, o1, hat⟩ : ∃ oi : Int, 0 ≤ oi ∧ oi < 1000000 ∧ atI [V.int 0, .int 0, .int 1, .int r] r4 = some (.int oi) := by
          have hc : r4 = 0 ∨ r4 = 1 ∨ r4 = 2 ∨ r4 = 3 := by omega
          rcases hc with rfl | rfl | rfl | rfl
          · exact ⟨0, by decide, by decide, atI_nat (j := 0) rfl⟩
          · exact ⟨0, by decide, by decide, atI_nat (j := 1) rfl⟩
          · exact ⟨1, by decide, by decide, atI_nat (j := 2) rfl⟩
          · exact ⟨r, r0, r1, atI_nat (j := 3) rfl⟩
        refine ⟨l4, _, _, _, rfl, rfl, SqL.of (by rw [upd_ne nl4.symm, upd_same]), hat, ?_⟩
        have nLa : L ≠ a := fun y => by
          rw [y, ha] at nLH
          cases nLH
        have btZ5 : But a Z (upd (upd H3 l4 (.lst [.int 0, .int 0, .int 1, .int r])) a (.lst b4)) := But.upd (But.new ((But.upd (But.refl a Z)).trans bt3) n4)
        have hb5 : (upd (upd H3 l4 (.lst [.int 0, .int 0, .int 1, .int r])) a (.lst b4)) a = some (.lst b4) := upd_same
        have hL5 := btZ5 _ _ nLa hL
        obtain ⟨Z5, e5⟩ : ∃ Z5, Z5 = upd (upd H3 l4 (.lst [.int 0, .int 0, .int 1, .int r])) a (.lst b4) := ⟨_, rfl⟩
        rw [← e5] at btZ5 hb5 hL5 ⊢
        refine ⟨_, rfl, L, vs, rfl, .inl ⟨SqL.of hL5, fun t nt => ?_⟩⟩
        refine ⟨by show 3 ≤ sizeLine; decide, fun p np => ?_⟩
        have k1 := same_upd (o := .tup vs) nt
        have k2 := same_upd (o := .tup [.str z, .int oi, .ref t]) np
        have kk := k1.trans k2
        have bt5 := btZ.trans btZ5
        have f1 : H t = none := But.free bt5 hb5 nt
        have f2 : H p = none := But.free (bt5.trans (But.of k1)) (k1 _ _ hb5) np
        have dA2 : DpAll K (Nw H (upd (upd Z5 t (.tup vs)) p (.tup [.str z, .int oi, .ref t]))) vs ds := dpAll_same (fun c o e => by
          obtain ⟨c1, c2⟩ := Nw.get e
          have nca : c ≠ a := fun y => by
            rw [y, ha] at c1
            cases c1
          exact Nw.mk c1 (kk _ _ (btZ5 _ _ nca c2))) dAll
        exact q _ _ _ (k + 1) b4 (bt5.trans (But.of kk)) (kk _ _ hb5) (hB4.mono (by omega)) (.tup (SqT.of (Nw.mk f2 upd_same)) (.cons (.str _) (.cons (.int _) (.cons (.tup (SqT.of (Nw.mk f1 (k2 _ _ upd_same))) dA2) .nil)))) (.mk nma o0 o1 hl2 trA) hk
end
/-! ### the eighteen errors: what __init__ leaves -/
def spOneD (K : PySem.W.Frag) (C : Addr) (f : Str) (n : Nat) : Sp := fun vs H Q _ => ∃ (e : Addr) (x : V) (d : PyData), vs = [.ref e, x] ∧ Dp K H x d ∧ Sm n d ∧ H e = some (exo e C none) ∧
  ∀ (H' : Hp) (dd : Addr) (y : V), H dd = none → dd ≠ e → H' e = some (exo e C (some dd)) → H' dd = some (exd dd [(f, y)]) → But e H H' → Dp K (Nw H H') y d → Q .non H'
def spTwoD (K : PySem.W.Frag) (C : Addr) (f1 f2 : Str) (n : Nat) : Sp := fun vs H Q _ => ∃ (e : Addr) (x1 x2 : V) (d1 d2 : PyData), vs = [.ref e, x1, x2] ∧ Dp K H x1 d1 ∧ Sm n d1 ∧ Dp K H x2 d2 ∧ Sm n d2 ∧ H e = some (exo e C none) ∧
  ∀ (H' : Hp) (dd : Addr) (y1 y2 : V), H dd = none → dd ≠ e → H' e = some (exo e C (some dd)) → H' dd = some (exd dd [(f2, y2), (f1, y1)]) → But e H H' → Dp K (Nw H H') y1 d1 → Dp K (Nw H H') y2 d2 → Q .non H'
abbrev s_BadText : Stmt := inClass (top 10) 0
abbrev N_BadText : List Str := ["self", "at"]
theorem sc_BadText : FnScope N_BadText N_BadText (defScope s_BadText) := ⟨rfl, rfl, rfl, by decide +kernel, rfl, by decide +kernel, by decide +kernel⟩
section
variable {K : PySem.W.Frag} {H H' : Hp} {e C : Addr}
theorem exo_lst {od : Option Addr} {xs : List V} : exo e C od ≠ .lst xs := fun z => by
  have z' : HO.ext _ = HO.lst xs := z
  cases z'
theorem exo_tup' {od : Option Addr} {xs : List V} : exo e C od ≠ .tup xs := fun z => by
  have z' : HO.ext _ = HO.tup xs := z
  cases z'
theorem exo_frz' {od : Option Addr} {o : Obj} {v : HO} : exo e C od ≠ .frz o v := fun z => by
  have z' : HO.ext _ = HO.frz o v := z
  cases z'
theorem off_exo {od : Option Addr} {a : Addr} {o : HO} (he : H e = some (exo e C od)) (h : H a = some o) (n : exo e C od ≠ o) : a ≠ e := fun z => by
  rw [z, he] at h
  exact n (Option.some.inj h)
mutual
theorem dp_but {od : Option Addr} (he : H e = some (exo e C od)) (s : But e H H') : ∀ {v : V} {d : PyData}, Dp K H v d → Dp K H' v d
  | _, _, .non => .non
  | _, _, .bl b => .bl b
  | _, _, .int i => .int i
  | _, _, .str x => .str x
  | _, _, .lst h a => .lst (by
    rcases h with (h | ⟨o, h⟩) | h
    · exact .inl (.inl (s _ _ (off_exo he h exo_lst) h))
    · exact .inl (.inr ⟨o, s _ _ (off_exo he h exo_frz') h⟩)
    · exact .inr h) (dpAll_but he s a)
  | _, _, .tup h a => .tup (by
    rcases h with (h | ⟨o, h⟩) | h
    · exact .inl (.inl (s _ _ (off_exo he h exo_tup') h))
    · exact .inl (.inr ⟨o, s _ _ (off_exo he h exo_frz') h⟩)
    · exact .inr h) (dpAll_but he s a)
theorem dpAll_but {od : Option Addr} (he : H e = some (exo e C od)) (s : But e H H') : ∀ {vs : List V} {ds : List PyData}, DpAll K H vs ds → DpAll K H' vs ds
  | _, _, .nil => .nil
  | _, _, .cons h a => .cons (dp_but he s h) (dpAll_but he s a)
end
end
section
variable {K : PySem.W.Frag} {C : Addr} {B : String} {n : Nat}
theorem one_left {f : Str} {m : Str} {Q : VK} {H : Hp} {e : Addr} {x : V} {d : PyData} (O : OxC K C B) (h1 : PySem.W.findIn K (.ref C) f = some none) (hx : Dp K H x d) (hs : Sm n d) (he : H e = some (exo e C none))
    (q : ∀ (H' : Hp) (dd : Addr) (y : V), H dd = none → dd ≠ e → H' e = some (exo e C (some dd)) → H' dd = some (exd dd [(f, y)]) → But e H H' → Dp K (Nw H H') y d → Q .non H') :
    tSeq (tDrop (tBI K B (tCons (tVar 0) (tCons (tC (.str m)) tNil)))) (tOxs K f (tVar 0) (tCall (spOwnD K n) [] E0 (tCons (tVar 1) tNil))) { nx := fun _ H' => Q .non H', rt := Q } [some (.ref e), some x] H := by
  refine ⟨_, rfl, e, C, _, rfl, by show 1 ≤ 1000; decide, O, he, ?_⟩
  refine ⟨_, rfl, x, d, rfl, hx, hs, fun H1 y s1 hy => ?_⟩
  refine ⟨_, rfl, e, C, B, rfl, O, h1, .inl ⟨s1 _ _ he, fun dd nd nde => ?_⟩⟩
  refine q _ dd y (s1.free nd) nde upd_same (by rw [upd_ne nde, upd_same]) (fun z o nz hz => ?_) (dp_same (fun z o hz => ?_) hy)
  · rw [upd_ne nz, upd_ne (ne_of_none (s1 _ _ hz) nd)]
    exact s1 _ _ hz
  · obtain ⟨e1, e2⟩ := Nw.get hz
    exact Nw.mk e1 (by rw [upd_ne (fun z2 => by rw [z2, he] at e1; cases e1), upd_ne (ne_of_none e2 nd)]; exact e2)
theorem two_left {f1 f2 : Str} {m : Str} {Q : VK} {H : Hp} {e : Addr} {x1 x2 : V} {d1 d2 : PyData} (O : OxC K C B) (h1 : PySem.W.findIn K (.ref C) f1 = some none) (h2 : PySem.W.findIn K (.ref C) f2 = some none) (hx1 : Dp K H x1 d1) (hs1 : Sm n d1) (hx2 : Dp K H x2 d2) (hs2 : Sm n d2) (he : H e = some (exo e C none))
    (q : ∀ (H' : Hp) (dd : Addr) (y1 y2 : V), H dd = none → dd ≠ e → H' e = some (exo e C (some dd)) → H' dd = some (exd dd [(f2, y2), (f1, y1)]) → But e H H' → Dp K (Nw H H') y1 d1 → Dp K (Nw H H') y2 d2 → Q .non H') :
    tSeq (tDrop (tBI K B (tCons (tVar 0) (tCons (tC (.str m)) tNil)))) (tSeq (tOxs K f1 (tVar 0) (tCall (spOwnD K n) [] E0 (tCons (tVar 1) tNil))) (tOxs K f2 (tVar 0) (tCall (spOwnD K n) [] E0 (tCons (tVar 2) tNil)))) { nx := fun _ H' => Q .non H', rt := Q } [some (.ref e), some x1, some x2] H := by
  refine ⟨_, rfl, e, C, _, rfl, by show 1 ≤ 1000; decide, O, he, ?_⟩
  refine ⟨_, rfl, x1, d1, rfl, hx1, hs1, fun H1 y1 s1 hy1 => ?_⟩
  refine ⟨_, rfl, e, C, B, rfl, O, h1, .inl ⟨s1 _ _ he, fun dd nd nde => ?_⟩⟩
  have b1 : But e H (upd (upd H1 dd (exd dd [(f1, y1)])) e (exo e C (some dd))) := fun z o nz hz => by
    rw [upd_ne nz, upd_ne (ne_of_none (s1 _ _ hz) nd)]
    exact s1 _ _ hz
  refine ⟨_, rfl, x2, d2, rfl, ?_, hs2, fun H2 y2 s2 hy2 => ?_⟩
  · exact dp_but he b1 hx2
  have e2 : H2 e = some (exo e C (some dd)) := s2 _ _ upd_same
  have g2 : H2 dd = some (exd dd [(f1, y1)]) := s2 _ _ (by rw [upd_ne nde, upd_same])
  refine ⟨_, rfl, e, C, B, rfl, O, h2, .inr ⟨dd, _, e2, g2, by show 1 ≤ 900; decide, ?_⟩⟩
  refine q _ dd y1 y2 (s1.free nd) nde (by rw [upd_ne nde.symm]; exact e2) upd_same (fun z o nz hz => ?_) (dp_same (fun z o hz => ?_) hy1) (dp_same (fun z o hz => ?_) hy2)
  · rw [upd_ne (ne_of_none (s1 _ _ hz) nd)]
    exact s2 _ _ (b1 _ _ nz hz)
  · obtain ⟨w1, w2⟩ := Nw.get hz
    have nze : z ≠ e := fun z2 => by
      rw [z2, he] at w1
      cases w1
    have nzd : z ≠ dd := ne_of_none w2 nd
    exact Nw.mk w1 (by rw [upd_ne nzd]; exact s2 _ _ (by rw [upd_ne nze, upd_ne nzd]; exact w2))
  · obtain ⟨w1, w2⟩ := Nw.get hz
    have nze : z ≠ e := fun z2 => by
      rw [z2, upd_same] at w1
      cases w1
    have nzd : z ≠ dd := fun z2 => by
      rw [z2, upd_ne nde, upd_same] at w1
      cases w1
    rw [upd_ne nze, upd_ne nzd] at w1
    exact Nw.mk (s1.free w1) (by rw [upd_ne nzd]; exact w2)
end
section
variable {P : Program} {w : World} {K : PySem.W.Frag} {mg : Str → Option Value} {base : Heap} {C : Addr}
theorem ok_BadText {n : Nat} {f : Addr} {fd : FuncData} (cown_copy : C8.Cal P w K mg base (n + 1) "own_copy" (spOwnD K n) []) (F : L2.Fun K "__init__" "BadText.__init__" s_BadText f fd) (O : OxC K C "ValueError") (b : BInit K "ValueError") (mV : mg "ValueError" = none) (h1 : PySem.W.findIn K (.ref C) "at" = some none) :
    FnOk P w K mg base CX0 (n + 2) f fd N_BadText (spOneD K C "at" n) := by
  refine F.ok sc_BadText (fun vs H Q E h => ?_) (fun cdv A outer s H vs Q E hr h => ?_)
  · obtain ⟨e, x, d, rfl, _⟩ := h
    rfl
  · obtain ⟨e, x, d, rfl, hx, hs, he, q⟩ := h
    refine ⟨_, pss_cons (ps_expr (pe_binit b (by rfl) mV (pa_cons (pv 0) (pa_cons pe_str pa_nil)))) (pss_one (ps_oxs (pv 0) (C8.pe_c cown_copy hr (by omega) (by rfl) (pa_cons (pv 1) pa_nil)))), ?_⟩
    exact one_left O h1 hx hs he q
end
/-! ### errors held as values, and what they bear -/
def SeqO (o : HO) : Prop := (∃ xs, o = .lst xs) ∨ (∃ xs, o = .tup xs) ∨ ∃ o' v, o = .frz o' v
section
variable {K : PySem.W.Frag} {H H' : Hp}
mutual
theorem dp_tr (s : ∀ a o, SeqO o → H a = some o → H' a = some o) : ∀ {v : V} {d : PyData}, Dp K H v d → Dp K H' v d
  | _, _, .non => .non
  | _, _, .bl b => .bl b
  | _, _, .int i => .int i
  | _, _, .str x => .str x
  | _, _, .lst h a => .lst (by
    rcases h with (h | ⟨o, h⟩) | h
    · exact .inl (.inl (s _ _ (.inl ⟨_, rfl⟩) h))
    · exact .inl (.inr ⟨o, s _ _ (.inr (.inr ⟨_, _, rfl⟩)) h⟩)
    · exact .inr h) (dpAll_tr s a)
  | _, _, .tup h a => .tup (by
    rcases h with (h | ⟨o, h⟩) | h
    · exact .inl (.inl (s _ _ (.inr (.inl ⟨_, rfl⟩)) h))
    · exact .inl (.inr ⟨o, s _ _ (.inr (.inr ⟨_, _, rfl⟩)) h⟩)
    · exact .inr h) (dpAll_tr s a)
theorem dpAll_tr (s : ∀ a o, SeqO o → H a = some o → H' a = some o) : ∀ {vs : List V} {ds : List PyData}, DpAll K H vs ds → DpAll K H' vs ds
  | _, _, .nil => .nil
  | _, _, .cons h a => .cons (dp_tr s h) (dpAll_tr s a)
end
theorem exd_seq {d : Addr} {fs : List (Str × V)} : ¬ SeqO (exd d fs) := by
  rintro (⟨xs, z⟩ | ⟨xs, z⟩ | ⟨o', v, z⟩)
  · have z' : HO.ext _ = HO.lst xs := z
    cases z'
  · have z' : HO.ext _ = HO.tup xs := z
    cases z'
  · have z' : HO.ext _ = HO.frz o' v := z
    cases z'
theorem exo_seq {e C : Addr} {od : Option Addr} : ¬ SeqO (exo e C od) := by
  rintro (⟨xs, z⟩ | ⟨xs, z⟩ | ⟨o', v, z⟩)
  · exact exo_lst z
  · exact exo_tup' z
  · exact exo_frz' z
/-- an error of the class at C, its fields -/
def ErAt (H : Hp) (e C : Addr) (fs : List (Str × V)) : Prop := ∃ d, H e = some (exv e C d) ∧ H d = some (.xd fs)
theorem ErAt.same {e C : Addr} {fs : List (Str × V)} (h : ErAt H e C fs) (s : Same H H') : ErAt H' e C fs := by
  obtain ⟨d, h1, h2⟩ := h
  exact ⟨d, s _ _ h1, s _ _ h2⟩
/-- behind the making -/
theorem made_same {e C dd : Addr} {fs gs : List (Str × V)} (ne : H e = none) (nd : (upd H e (exo e C none)) dd = none) (b : But e (upd H e (exo e C none)) H') : Same H (upd (upd H' e (exv e C dd)) dd (.xd fs)) := fun z o hz => by
  have nze : z ≠ e := ne_of_none hz ne
  have hz2 : (upd H e (exo e C none)) z = some o := by
    rw [upd_ne nze]
    exact hz
  rw [upd_ne (ne_of_none hz2 nd), upd_ne nze]
  exact b _ _ nze hz2
theorem made_dp {e C dd : Addr} {fs gs : List (Str × V)} {y : V} {d : PyData} (he : H' e = some (exo e C (some dd))) (hd : H' dd = some (exd dd gs)) (h : Dp K (Nw (upd H e (exo e C none)) H') y d) : Dp K (upd (upd H' e (exv e C dd)) dd (.xd fs)) y d :=
  dp_tr (fun a o so ha => by
    obtain ⟨_, h2⟩ := Nw.get ha
    have n1 : a ≠ e := fun z => by
      rw [z, he] at h2
      cases h2
      exact exo_seq so
    have n2 : a ≠ dd := fun z => by
      rw [z, hd] at h2
      cases h2
      exact exd_seq so
    rw [upd_ne n2, upd_ne n1]
    exact h2) h
theorem mkv_one {C : Addr} {f : Str} {n : Nat} {x : V} {d : PyData} {Q : VK} (hx : Dp K H x d) (hs : Sm n d) (q : ∀ (G : Hp) (e : Addr) (y : V), Same H G → ErAt G e C [(f, y)] → Dp K G y d → Q (.ref e) G) :
    ∀ e, H e = none → spOneD K C f n [.ref e, x] (upd H e (exo e C none)) (fun v H2 => v = .non ∧ ∃ (d : Addr) (fs : List (Str × V)), H2 e = some (exo e C (some d)) ∧ H2 d = some (exd d fs) ∧ Q (.ref e) (upd (upd H2 e (exv e C d)) d (.xd fs))) (fun _ _ _ => False) := by
  intro e ne
  refine ⟨e, x, d, rfl, dp_same (same_upd ne) hx, hs, upd_same, fun H' dd y nd nde he hd b hy => ⟨rfl, dd, _, he, hd, ?_⟩⟩
  refine q _ e y (made_same (gs := []) ne nd b) ⟨dd, by rw [upd_ne nde.symm, upd_same], upd_same⟩ (made_dp he hd hy)
theorem mkv_two {C : Addr} {f1 f2 : Str} {n : Nat} {x1 x2 : V} {d1 d2 : PyData} {Q : VK} (hx1 : Dp K H x1 d1) (hs1 : Sm n d1) (hx2 : Dp K H x2 d2) (hs2 : Sm n d2)
    (q : ∀ (G : Hp) (e : Addr) (y1 y2 : V), Same H G → ErAt G e C [(f2, y2), (f1, y1)] → Dp K G y1 d1 → Dp K G y2 d2 → Q (.ref e) G) :
    ∀ e, H e = none → spTwoD K C f1 f2 n [.ref e, x1, x2] (upd H e (exo e C none)) (fun v H2 => v = .non ∧ ∃ (d : Addr) (fs : List (Str × V)), H2 e = some (exo e C (some d)) ∧ H2 d = some (exd d fs) ∧ Q (.ref e) (upd (upd H2 e (exv e C d)) d (.xd fs))) (fun _ _ _ => False) := by
  intro e ne
  refine ⟨e, x1, x2, d1, d2, rfl, dp_same (same_upd ne) hx1, hs1, dp_same (same_upd ne) hx2, hs2, upd_same, fun H' dd y1 y2 nd nde he hd b hy1 hy2 => ⟨rfl, dd, _, he, hd, ?_⟩⟩
  exact q _ e y1 y2 (made_same (gs := []) ne nd b) ⟨dd, by rw [upd_ne nde.symm, upd_same], upd_same⟩ (made_dp he hd hy1) (made_dp he hd hy2)
end
/-! ### signs of a text -/
abbrev s_behind_signs : Stmt := top 17
abbrev N_behind_signs : List Str := ["text", "at", "signs", "behind"]
abbrev P_behind_signs : List Str := ["text", "at", "signs"]
theorem sc_behind_signs : FnScope N_behind_signs P_behind_signs (defScope s_behind_signs) := ⟨rfl, rfl, rfl, by decide +kernel, rfl, by decide +kernel, by decide +kernel⟩
abbrev s_is_name : Stmt := top 6
abbrev N_is_name : List Str := ["thing", "sign"]
abbrev P_is_name : List Str := ["thing"]
theorem sc_is_name : FnScope N_is_name P_is_name (defScope s_is_name) := ⟨rfl, rfl, rfl, by decide +kernel, rfl, by decide +kernel, by decide +kernel⟩
abbrev s_name_from : Stmt := top 18
abbrev N_name_from : List Str := ["text", "at", "behind", "name"]
abbrev P_name_from : List Str := ["text", "at"]
theorem sc_name_from : FnScope N_name_from P_name_from (defScope s_name_from) := ⟨rfl, rfl, rfl, by decide +kernel, rfl, by decide +kernel, by decide +kernel⟩
abbrev s_own_from : Stmt := top 19
abbrev N_own_from : List Str := ["text", "at", "first", "behind"]
abbrev P_own_from : List Str := ["text", "at"]
theorem sc_own_from : FnScope N_own_from P_own_from (defScope s_own_from) := ⟨rfl, rfl, rfl, by decide +kernel, rfl, by decide +kernel, by decide +kernel⟩
def LETS : Str := "abcdefghijklmnopqrstuvwxyz"
def FIGS : Str := "0123456789"
theorem lets_has (c : Nat) : decide (c ∈ LETS.cps.toList) = isLet c := by
  have e : LETS.cps.toList = [97, 98, 99, 100, 101, 102, 103, 104, 105, 106, 107, 108, 109, 110, 111, 112, 113, 114, 115, 116, 117, 118, 119, 120, 121, 122] := by decide +kernel
  rw [e]
  unfold isLet
  rw [Bool.eq_iff_iff]
  simp only [List.mem_cons, List.not_mem_nil, or_false, decide_eq_true_eq, Bool.and_eq_true]
  omega
theorem figs_has (c : Nat) : decide (c ∈ FIGS.cps.toList) = isFig c := by
  have e : FIGS.cps.toList = [48, 49, 50, 51, 52, 53, 54, 55, 56, 57] := by decide +kernel
  rw [e]
  unfold isFig
  rw [Bool.eq_iff_iff]
  simp only [List.mem_cons, List.not_mem_nil, or_false, decide_eq_true_eq, Bool.and_eq_true]
  omega
theorem cut_nat (cs : List Nat) (i k : Nat) : cutS (SX.S cs) (some (i : Int)) (some (k : Int)) = SX.S ((cs.drop i).take (k - i)) := by
  unfold cutS
  have hl : (SX.S cs).length = cs.length := SX.S_len cs
  rw [HT.sIx_nat, HT.sIx_nat, hl]
  show SX.S ((cs.drop (min i cs.length)).take (min k cs.length - min i cs.length)) = _
  congr 1
  by_cases hi : i ≤ cs.length
  · rw [Nat.min_eq_left hi]
    by_cases hk : k ≤ cs.length
    · rw [Nat.min_eq_left hk]
    · rw [Nat.min_eq_right (by omega)]
      rw [List.take_of_length_le (by rw [List.length_drop]; omega), List.take_of_length_le (by rw [List.length_drop]; omega)]
  · rw [List.drop_eq_nil_of_le (by omega : cs.length ≤ min i cs.length), List.drop_eq_nil_of_le (by omega : cs.length ≤ i), List.take_nil, List.take_nil]
/-- the sign at a place, an empty text behind the end -/
theorem cut_one (cs : List Nat) (i : Nat) : cutS (SX.S cs) (some (i : Int)) (some ((i : Int) + 1)) = SX.S ((cs.drop i).take 1) := by
  have := cut_nat cs i (i + 1)
  rw [show i + 1 - i = 1 by omega] at this
  exact this
theorem one_is (r : List Nat) (c : Nat) : decide (V.str (SX.S (r.take 1)) = V.str (SX.S [c])) = decide (r.head? = some c) := by
  rw [Bool.eq_iff_iff, decide_eq_true_eq, decide_eq_true_eq]
  constructor
  · intro h
    have e := SX.S_inj (V.str.inj h)
    cases r with
    | nil => cases e
    | cons d q =>
      have e2 : [d] = [c] := e
      cases e2
      rfl
  · intro h
    cases r with
    | nil => cases h
    | cons d q =>
      cases h
      rfl
theorem drop_at {cs : List Nat} {i : Nat} (h : i < cs.length) : ∃ c, cs[i]? = some c ∧ cs.drop i = c :: cs.drop (i + 1) := ⟨cs[i], by simp [h], List.drop_eq_getElem_cons h⟩
theorem lead_le (p : Nat → Bool) : ∀ (n : Nat) (r : List Nat), lead p n r ≤ n ∧ lead p n r ≤ r.length
  | 0, r => ⟨Nat.le_refl _, Nat.zero_le _⟩
  | _ + 1, [] => ⟨Nat.zero_le _, Nat.le_refl _⟩
  | n + 1, c :: r => by
    obtain ⟨h1, h2⟩ := lead_le p n r
    by_cases hc : p c = true
    · rw [show lead p (n + 1) (c :: r) = lead p n r + 1 from if_pos hc, List.length_cons]
      omega
    · rw [show lead p (n + 1) (c :: r) = 0 from if_neg hc]
      omega
theorem lead_all (p : Nat → Bool) : ∀ (n : Nat) (r : List Nat), ∀ c ∈ r.take (lead p n r), p c = true
  | 0, r, c, h => nomatch h
  | _ + 1, [], c, h => nomatch h
  | n + 1, d :: r, c, h => by
    by_cases hd : p d = true
    · rw [show lead p (n + 1) (d :: r) = lead p n r + 1 from if_pos hd, List.take_succ_cons] at h
      rcases List.mem_cons.mp h with rfl | h
      · exact hd
      · exact lead_all p n r c h
    · rw [show lead p (n + 1) (d :: r) = 0 from if_neg hd] at h
      cases h
structure Gl9 (mg : Str → Option Value) : Prop where
  signs : ∃ u, mg "SIGNS" = some u ∧ RelV (.int 6) u
  letters : ∃ u, mg "LETTERS" = some u ∧ RelV (.str LETS) u
  figures : ∃ u, mg "FIGURES" = some u ∧ RelV (.str FIGS) u
  places : ∃ u, mg "PLACES" = some u ∧ RelV (.int 30) u
  most : ∃ u, mg "MOST_PARTS" = some u ∧ RelV (.int 2) u
structure Tx (mg : Str → Option Value) : Prop where
  len : mg "len" = none
  int : mg "int" = none
  str : mg "str" = none
  isinstance : mg "isinstance" = none
  all : mg "all" = none
  tuple : mg "tuple" = none
def spBehind : Sp := fun vs H Q _ => ∃ (cs : List Nat) (j : Nat) (sg : Str) (p : Nat → Bool), vs = [.str (SX.S cs), .int j, .str sg] ∧ cs.length ≤ 5000 ∧ (∀ c, decide (c ∈ sg.cps.toList) = p c) ∧ Q (.int ((j + lead p 6 (cs.drop j) : Nat) : Int)) H
def spIsName : Sp := fun vs H Q _ => ∃ w : List Nat, vs = [.str (SX.S w)] ∧ w.length ≤ 5000 ∧ ∀ H', Same H H' → Q (.bl (!noName w && (decide (w.length ≤ 6) && w.all isLet))) H'
section
variable {P : Program} {w : World} {K : PySem.W.Frag} {mg : Str → Option Value} {base : Heap}
theorem ok_behind (T : Tx mg) (G : Gl9 mg) (D : Dd K mg "behind_signs" s_behind_signs P_behind_signs) : C8.Cal P w K mg base 1 "behind_signs" spBehind [] := by
  refine D.cal sc_behind_signs (fun vs H Q E h => ?_) (fun f cdv A outer s H vs Q E hr h => ?_)
  · obtain ⟨cs, j, sg, p, rfl, _⟩ := h
    rfl
  · obtain ⟨cs, j, sg, p, rfl, hl, hp, q⟩ := h
    have hl2 : (SX.S cs).length ≤ sizeLine := by
      rw [SX.S_len]
      exact Nat.le_trans hl (by decide)
    refine ⟨_, (pss_cons (ps_set (i := 3) sc_behind_signs.nd rfl (Or.inl rfl) (pv 1))
        (pss_cons (ps_while PassesOwn.never (PW.pt (pw_and (pt_cmpR op_lt (pv 3) (pe_callB call_len_str (by rfl) T.len PySem.boot_len (pa_cons (pv 0) pa_nil)) (nomark _)) (pw_and (pt_cmpR op_lt (pv 3) (pe_op op_add (pv 1) (C8.pe_gc (v := .int 6) rfl G.signs)) (nomark _)) (pw_and1 (pt_cmpR op_in_sign (pe_ix ix_str (pv 0) (pv 3) (fun _ _ => rfl)) (pv 2) (by with_unfolding_all rfl))))))
          (pss_one (ps_aug (i := 3) sc_behind_signs.nd rfl (Or.inl rfl) pe_int ip_add)))
        (pss_one (ps_ret (pv 3))))), ?_⟩
    refine ⟨_, rfl, ?_⟩
    refine ⟨fun m σ H3 => ∃ i : Nat, σ = [some (.str (SX.S cs)), some (.int j), some (.str sg), some (.int ((j + i : Nat) : Int))] ∧ H3 = H ∧ i ≤ 6 ∧ m = 6 - i ∧ i + lead p (6 - i) (cs.drop (j + i)) = lead p 6 (cs.drop j),
      ⟨6, 0, rfl, rfl, by decide, rfl, by rw [Nat.zero_add]; rfl⟩, ?_⟩
    rintro m σ H3 ⟨i, rfl, rfl, hi, rfl, hlead⟩
    have out : lead p (6 - i) (cs.drop (j + i)) = 0 → Q (.int ((j + i : Nat) : Int)) H3 := fun e => by
      rw [e, Nat.add_zero] at hlead
      rw [← hlead] at q
      exact q
    by_cases h1 : j + i < cs.length
    · refine ⟨_, rfl, _, rfl, _, rfl, hl2, _, _, rfl, rfl, _, rfl, ifT (decide_eq_true (by rw [SX.S_len]; omega)) ?_⟩
      by_cases h2 : i < 6
      · refine ⟨_, rfl, _, rfl, _, _, rfl, rfl, _, _, rfl, rfl, _, rfl, ifT (decide_eq_true (by omega)) ?_⟩
        obtain ⟨c, hc, hd⟩ := drop_at h1
        refine ⟨_, rfl, _, rfl, SX.S cs, _, c, rfl, rfl, hl2, atI_nat hc, _, rfl, c, sg, rfl, rfl, _, rfl, ?_⟩
        rw [hp c]
        have e6 : 6 - i = (6 - (i + 1)) + 1 := by omega
        by_cases h3 : p c = true
        · refine ifT h3 ?_
          refine ⟨fun σ' H' => ∃ i' : Nat, i' = i + 1 ∧ σ' = [some (.str (SX.S cs)), some (.int j), some (.str sg), some (.int ((j + i' : Nat) : Int))] ∧ H' = H3, ?_, ?_⟩
          · rintro σ' H' ⟨i', rfl, rfl, rfl⟩
            refine ⟨6 - (i + 1), by omega, i + 1, rfl, rfl, by omega, rfl, ?_⟩
            rw [hd, e6, show lead p (6 - (i + 1) + 1) (c :: cs.drop (j + i + 1)) = lead p (6 - (i + 1)) (cs.drop (j + i + 1)) + 1 from if_pos h3] at hlead
            rw [← hlead, show j + (i + 1) = j + i + 1 by omega]
            omega
          · exact ⟨_, rfl, _, _, rfl, rfl, i + 1, rfl, rfl, rfl⟩
        · refine ifF (by simpa using h3) ⟨_, rfl, out ?_⟩
          rw [hd, e6]
          exact if_neg h3
      · refine ⟨_, rfl, _, rfl, _, _, rfl, rfl, _, _, rfl, rfl, _, rfl, ifF (decide_eq_false (by omega)) ⟨_, rfl, out ?_⟩⟩
        rw [show 6 - i = 0 by omega]
        rfl
    · refine ⟨_, rfl, _, rfl, _, rfl, hl2, _, _, rfl, rfl, _, rfl, ifF (decide_eq_false (by rw [SX.S_len]; omega)) ⟨_, rfl, out ?_⟩⟩
      rw [List.drop_eq_nil_of_le (by omega)]
      cases 6 - i <;> rfl
end
structure OxD (K : PySem.W.Frag) (mg : Str → Option Value) (C : Addr) (B : String) (x qual : Str) (st : Stmt) (ps : List Str) : Prop where
  ex : ∃ (f : Addr) (fd : FuncData), L2.Fun K "__init__" qual st f fd ∧ Binds K fd ps [] ∧ PySem.W.findIn K (.ref C) "__init__" = some (some (.ref f)) ∧ PySem.W.typeIn K (.ref f) = some (.type "function")
  ox : OxC K C B
  mg : mg x = some (.ref C)
/-- what is wished for where a text doesn't go on so -/
def BadAt (C : Addr) (H : Hp) (p : Nat) (E : XK) : Prop := ∀ (H' : Hp) (dd : Addr), Same H H' → H dd = none → H' dd = some (.xd [("at", .int (p : Nat))]) → E (.ref C) (some dd) H'
theorem BadAt.grow {C : Addr} {H H2 : Hp} {p : Nat} {E : XK} (h : BadAt C H p E) (s : Same H H2) : BadAt C H2 p E := fun H' dd s2 nd e => h H' dd (s.trans s2) (s.free nd) e
theorem dp_int {K : PySem.W.Frag} {H : Hp} {x : V} {j : Int} (h : Dp K H x (.int j)) : x = .int j := by
  cases h
  rfl
theorem raise_bad {K : PySem.W.Frag} {C : Addr} {H : Hp} {p : Nat} {E : XK} {R : Hp → Addr → List (Str × V) → Prop} (hE : BadAt C H p E) {a : Addr} (na : H a = none)
    (hR : ∀ H' dd y, H dd = none → dd ≠ a → H' a = some (exo a C (some dd)) → H' dd = some (exd dd [("at", y)]) → E (.ref C) (some dd) (upd (del H' a) dd (.xd [("at", y)])) → R H' dd [("at", y)]) :
    spOneD K C "at" 0 [.ref a, .int (p : Nat)] (upd H a (exo a C none)) (fun v H2 => v = .non ∧ ∃ dd fs, R H2 dd fs) (fun _ _ _ => False) := by
  refine ⟨a, .int (p : Nat), .int (p : Nat), rfl, .int _, .int _ _, upd_same, fun H' dd y nd nda ha hd2 hb hy => ⟨rfl, dd, _, hR H' dd y ?_ nda ha hd2 ?_⟩⟩
  · rw [upd_ne nda] at nd
    exact nd
  · rw [upd_ne nda] at nd
    rw [dp_int hy]
    refine hE _ dd (fun b o e => ?_) nd upd_same
    have nba : b ≠ a := ne_of_none e na
    rw [upd_ne (ne_of_none e nd), del_ne nba]
    refine hb _ _ nba ?_
    rw [upd_ne nba]
    exact e
theorem s_own : (("own" : String) : Str) = SX.S OWNL := by decide +kernel
theorem s_col : ((":" : String) : Str) = SX.S [58] := by decide +kernel
theorem s_nil : (("0" : String) : Str) = SX.S [48] := by decide +kernel
theorem s_dec (a b : List Nat) : decide (V.str (SX.S a) = V.str (SX.S b)) = decide (a = b) := by
  rw [Bool.eq_iff_iff, decide_eq_true_eq, decide_eq_true_eq]
  exact ⟨fun h => SX.S_inj (V.str.inj h), fun h => by rw [h]⟩
def spName (C : Addr) : Sp := fun vs H Q E => ∃ (cs : List Nat) (j : Nat), vs = [.str (SX.S cs), .int j] ∧ cs.length ≤ 5000 ∧ match nameR j (cs.drop j) with
  | .ok w j1 _ => ∀ (H' : Hp) (q : Addr), Same H H' → H' q = some (.tup [.str (SX.S w), .int (j1 : Nat)]) → Q (.ref q) H'
  | .bad p => BadAt C H p E
def spOwn (C : Addr) : Sp := fun vs H Q E => ∃ (cs : List Nat) (j : Nat), vs = [.str (SX.S cs), .int j] ∧ cs.length ≤ 5000 ∧ match ownR j (cs.drop j) with
  | .ok n j1 _ => ∀ (H' : Hp) (q : Addr), Same H H' → H' q = some (.tup [.int (n : Nat), .int (j1 : Nat)]) → Q (.ref q) H'
  | .bad p => BadAt C H p E
def tCallT (sp : Sp) (dvs : List V) (W : WX) (t : TA) : TE := fun σ H Q => t σ H fun vs H1 => sp (vs ++ dvs) H1 Q (WE W σ)
section
variable {X : Cx} {k j : Nat} {x : Str} {sp : Sp} {p pos : Pos} {e : Expr} {es : List Expr} {t : TA} {dvs : List V}
theorem pe_cT {W : WX} (c : CalX X.prog X.w X.K X.mg X.base k x sp dvs) (hr : Room j X.A) (hk : k ≤ j) (hg : Gl X x) (tkw : Takes X W) (ha : PA X (e :: es) t) (hdb : (x == ("__debug__" : Str)) = false := by decide)
    (he : starEach (e :: es) X.env = (false, eval e X.env) :: starEach es X.env := by rfl) (hpl : (backTo pos (starEach es X.env)).any (·.1) = false := by rfl) :
    PE X (.Call (.Name x p) (e :: es) [] pos) (tCallT sp dvs W t) := by
  obtain ⟨f, fd, ps, ds, F, hm, kp, b, d⟩ := c.ex
  refine ⟨fun pins s σ H Q I h => wpAny_Call_Name_kw (ld_glob I hg hm ?_ hdb)⟩
  refine PySem.W.callWith_K (h₀ := X.base) I.ok.mod.kin kp (thn (ha.run pos pins s σ H _ I h) fun us s1 ⟨vs, H1, I1, r, q⟩ => ⟨I1.kIn, ?_⟩) he hpl
  have r2 : Vals (vs ++ dvs) (us ++ ds) := Vals.append r d
  have hl : (us ++ ds).length = ps.length := by
    rw [← r2.length]
    exact F.len _ _ _ _ q
  refine wpAny_call (codeAny_mono (F.run X.A X.stack s1 H1 ⟨us, []⟩ (us ++ ds) (vs ++ dvs) Q (WE W σ) (hr.mono hk) I1.env0 (b s1 us I1.kIn hl) r2 q) fun res s' hq => ?_)
  cases res with
  | error er => exact passAt tkw σ pins H1 s1 er s' I1 hq
  | ok fl =>
    cases fl with
    | ret u => exact I1.after hq
    | next => exact hq.elim
    | brk => exact hq.elim
    | cont => exact hq.elim
end
section
variable {P : Program} {w : World} {K : PySem.W.Frag} {mg : Str → Option Value} {base : Heap} {C : Addr}
theorem ok_is_name (T : Tx mg) (G : Gl9 mg) (D : Dd K mg "is_name" s_is_name P_is_name) : C8.Cal P w K mg base 1 "is_name" spIsName [] := by
  refine D.cal sc_is_name (fun vs H Q E h => ?_) (fun f cdv A outer s H vs Q E hr h => ?_)
  · obtain ⟨w, rfl, _⟩ := h
    rfl
  · obtain ⟨w, rfl, hl, q⟩ := h
    have hl2 : (SX.S w).length ≤ sizeLine := by
      rw [SX.S_len]
      exact Nat.le_trans hl (by decide)
    refine ⟨_, (pss_cons (ps_if (PW.pt (pw_or (pt_not (pt_val (pe_callB call_isi (by rfl) T.isinstance (by decide +kernel) (pa_cons (pv 0) (pa_cons (pe_bltn (v := .ty "str") rfl T.str (by decide +kernel) rfl) pa_nil))))) (pw_or (pt_cmpR op_eq (pv 0) pe_str (nomark _)) (pw_or1 (pt_not (pt_chain op_le op_le pe_int (pe_callB call_len_str (by rfl) T.len PySem.boot_len (pa_cons (pv 0) pa_nil)) (C8.pe_gc (v := .int 6) rfl G.signs)))))))
          (pss_one (ps_ret pe_bl))
          pss_nil)
        (pss_one (ps_ret (pe_callB (cr_all rfl) (by rfl) T.all (by decide +kernel) (pa_cons (pe_lc (own := [("sign", 1)]) (by exact rfl) sc_is_name.nd (pi_str (pv 0)) (blkOk_by (own := [("sign", 1)]) (N := N_is_name) (sc := defScope s_is_name) (by decide +kernel)) (fun _ _ _ _ _ => (pg_name (i := 1) sc_is_name.nd rfl (Or.inl rfl))) (fun _ _ _ _ _ => pts_nil) (fun _ _ _ _ _ => (pe_cmpR op_in_sign (pv 1) (C8.pe_gc (v := .str LETS) rfl G.letters) (by with_unfolding_all rfl)))) pa_nil))))), ?_⟩
    refine ⟨_, rfl, .str (SX.S w), .ty "str", .type "str", .type "str", true, rfl, .ty "str", .base (.str _), kit_ty (by decide +kernel), _, rfl, iteF ?_⟩
    refine ⟨_, rfl, rfl, _, rfl, ?_⟩
    rw [s_own, s_dec]
    by_cases h1 : w = OWNL
    · refine ifT (decide_eq_true h1) (iteT ?_)
      have e : (!noName w && (decide (w.length ≤ 6) && w.all isLet)) = false := by
        unfold noName
        rw [decide_eq_true h1]
        simp
      rw [e] at q
      exact q _ (Same.refl H)
    · refine ifF (decide_eq_false h1) ?_
      have out : ¬ (1 ≤ w.length ∧ w.length ≤ 6) → Q (.bl false) H := fun hn => by
        have e : (!noName w && (decide (w.length ≤ 6) && w.all isLet)) = false := by
          by_cases h0 : w = []
          · unfold noName
            rw [decide_eq_true h0]
            simp
          · have : ¬ w.length ≤ 6 := fun z => hn ⟨by cases w with | nil => exact absurd rfl h0 | cons _ _ => rw [List.length_cons]; omega, z⟩
            rw [decide_eq_false this]
            simp
        rw [e] at q
        exact q _ (Same.refl H)
      by_cases h2 : 1 ≤ w.length
      · refine ⟨_, rfl, _, rfl, hl2, _, _, rfl, rfl, _, rfl, ifT (decide_eq_true (by rw [SX.S_len]; omega)) ?_⟩
        by_cases h3 : w.length ≤ 6
        · refine ⟨_, _, rfl, rfl, _, rfl, ?_⟩
          rw [decide_eq_true (show ((SX.S w).length : Int) ≤ 6 by rw [SX.S_len]; omega)]
          refine iteF ?_
          refine ⟨_, rfl, _, rfl, fun D nD => ?_⟩
          refine lc_it walk_str (fun j H' => Same H H' ∧ H' D = some (.lst (((w.take j).map isLet).map V.bl))) ⟨same_upd nD, upd_same⟩ (fun _ _ _ _ => trivial) ?_ ?_
          · rintro j v H3 H4 hj ⟨sm, hD⟩ ⟨rfl, c, hc, rfl⟩
            have hc : w[j]? = some c := by
              have : w.toArray[j]? = some c := hc
              rw [List.getElem?_toArray] at this
              exact this
            refine ⟨rfl, yesT ?_⟩
            refine ⟨_, rfl, c, LETS, rfl, rfl, ?_⟩
            rw [lets_has]
            refine ⟨_, hD, by rw [List.length_map, List.length_map, List.length_take]; exact small1000 (by omega), Same.at_ sm nD, ?_⟩
            rw [upd_same, List.take_add_one, hc]
            simp
          · rintro H3 ⟨sm, hD⟩
            have e0 : (SX.S w).cps.size = w.length := List.size_toArray
            rw [e0, List.take_length] at hD
            refine ⟨D, _, rfl, SqL.of hD, ?_⟩
            have e : (!noName w && (decide (w.length ≤ 6) && w.all isLet)) = (w.map isLet).all id := by
              have n0 : noName w = false := by
                unfold noName
                rw [decide_eq_false h1, decide_eq_false (fun z => by rw [z] at h2; exact absurd h2 (by decide))]
                rfl
              rw [n0, decide_eq_true h3, List.all_map]
              rfl
            rw [e] at q
            exact q _ sm
        · refine ⟨_, _, rfl, rfl, _, rfl, ?_⟩
          rw [decide_eq_false (show ¬ ((SX.S w).length : Int) ≤ 6 by rw [SX.S_len]; omega)]
          exact iteT (out fun z => h3 z.2)
      · refine ⟨_, rfl, _, rfl, hl2, _, _, rfl, rfl, _, rfl, ifF (decide_eq_false (by rw [SX.S_len]; omega)) ⟨_, rfl, iteT (out fun z => h2 z.1)⟩⟩
theorem ok_name_from (G : Gl9 mg) (cbehind_signs : C8.Cal P w K mg base 1 "behind_signs" spBehind []) (cis_name : C8.Cal P w K mg base 1 "is_name" spIsName []) (N : OxD K mg C "ValueError" "BadText" "BadText.__init__" s_BadText N_BadText)
    (nl : ∀ f fd, L2.Fun K "__init__" "BadText.__init__" s_BadText f fd → FnOk P w K mg base CX0 2 f fd N_BadText (spOneD K C "at" 0)) (D : Dd K mg "name_from" s_name_from P_name_from) : CalX P w K mg base 4 "name_from" (spName C) [] := by
  obtain ⟨f, fd, F, g, b⟩ := D.ex
  obtain ⟨fN, fdN, FF, bN, iN, tN⟩ := N.ex
  have FN := nl _ _ FF
  refine ⟨f, fd, _, [], F.okX sc_name_from (fun vs H Q E h => ?_) (fun cdv A' outer s H vs Q E hr h => ?_), g, F.kp, b, .nil⟩
  · obtain ⟨cs, j, rfl, _⟩ := h
    rfl
  · obtain ⟨cs, j, rfl, hl, hq⟩ := h
    have hl2 : (SX.S cs).length ≤ sizeLine := by
      rw [SX.S_len]
      exact Nat.le_trans hl (by decide)
    obtain ⟨k1, k2⟩ := lead_le isLet 6 (cs.drop j)
    refine ⟨_, (pss_cons (ps_set (i := 2) sc_name_from.nd rfl (Or.inl rfl) (C8.pe_c cbehind_signs hr (by decide) (by rfl) (pa_cons (pv 0) (pa_cons (pv 1) (pa_cons (C8.pe_gc (v := .str LETS) rfl G.letters) pa_nil)))))
        (pss_cons (ps_set (i := 3) sc_name_from.nd rfl (Or.inl rfl) (pe_slice sl_str (pv 0) (po_some (pv 1)) (po_some (pv 2))))
        (pss_cons (ps_if (pt_not (pt_val (C8.pe_c cis_name hr (by decide) (by rfl) (pa_cons (pv 3) pa_nil))))
          (pss_one (ps_raise rfl (takes_of rfl rfl rfl rfl) (pmk_ox N.ox iN tN FN (hr.mono (by omega)) bN pass0 (by rfl) N.mg (pa_cons (pv 2) pa_nil))))
          pss_nil)
        (pss_one (ps_ret (pe_tup (pa_cons (pv 3) (pa_cons (pv 2) pa_nil)))))))), ?_⟩
    refine ⟨_, rfl, _, rfl, cs, j, LETS, isLet, rfl, hl, lets_has, ?_⟩
    refine ⟨_, rfl, _, rfl, _, rfl, _, rfl, _, rfl, _, rfl, hl2, ?_⟩
    rw [cut_nat, show j + lead isLet 6 (cs.drop j) - j = lead isLet 6 (cs.drop j) by omega]
    refine ⟨_, rfl, _, rfl, by rw [List.length_take, List.length_drop]; omega, fun H1 s1 => ⟨_, rfl, ?_⟩⟩
    have e1 : ((cs.drop j).take (lead isLet 6 (cs.drop j))).all isLet = true := List.all_eq_true.mpr (lead_all isLet 6 _)
    have e2 : ((cs.drop j).take (lead isLet 6 (cs.drop j))).length ≤ 6 := by
      rw [List.length_take]
      omega
    rw [e1, decide_eq_true e2]
    unfold nameR at hq
    by_cases hn : noName ((cs.drop j).take (lead isLet 6 (cs.drop j))) = true
    · rw [if_pos hn] at hq
      rw [hn]
      refine iteT ⟨_, rfl, by show 1 ≤ 1000; decide, fun a na => raise_bad (hq.grow s1) na fun H' dd y nd nda ha hd2 hE' => ⟨ha, hd2, nd, hE'⟩⟩
    · rw [if_neg hn] at hq
      rw [show noName ((cs.drop j).take (lead isLet 6 (cs.drop j))) = false by simpa using hn]
      refine iteF ?_
      exact ⟨_, rfl, _, rfl, by show 2 ≤ sizeLine; decide, fun q nq => hq _ q (s1.trans (same_upd nq)) upd_same⟩
theorem ok_own_from (T : Tx mg) (G : Gl9 mg) (cbehind_signs : C8.Cal P w K mg base 1 "behind_signs" spBehind []) (N : OxD K mg C "ValueError" "BadText" "BadText.__init__" s_BadText N_BadText)
    (nl : ∀ f fd, L2.Fun K "__init__" "BadText.__init__" s_BadText f fd → FnOk P w K mg base CX0 2 f fd N_BadText (spOneD K C "at" 0)) (D : Dd K mg "own_from" s_own_from P_own_from) : CalX P w K mg base 4 "own_from" (spOwn C) [] := by
  obtain ⟨f, fd, F, g, b⟩ := D.ex
  obtain ⟨fN, fdN, FF, bN, iN, tN⟩ := N.ex
  have FN := nl _ _ FF
  refine ⟨f, fd, _, [], F.okX sc_own_from (fun vs H Q E h => ?_) (fun cdv A' outer s H vs Q E hr h => ?_), g, F.kp, b, .nil⟩
  · obtain ⟨cs, j, rfl, _⟩ := h
    rfl
  · obtain ⟨cs, j, rfl, hl, hq⟩ := h
    have hl2 : (SX.S cs).length ≤ sizeLine := by
      rw [SX.S_len]
      exact Nat.le_trans hl (by decide)
    refine ⟨_, (pss_cons (ps_if (pt_cmpR op_ne (pe_slice sl_str (pv 0) (po_some (pv 1)) (po_some (pe_op op_add (pv 1) pe_int))) pe_str (nomark _))
          (pss_one (ps_ret (pe_tup (pa_cons pe_int (pa_cons (pv 1) pa_nil)))))
          pss_nil)
        (pss_cons (ps_set (i := 2) sc_own_from.nd rfl (Or.inl rfl) (pe_op op_add (pv 1) pe_int))
        (pss_cons (ps_set (i := 3) sc_own_from.nd rfl (Or.inl rfl) (C8.pe_c cbehind_signs hr (by decide) (by rfl) (pa_cons (pv 0) (pa_cons (pv 2) (pa_cons (C8.pe_gc (v := .str FIGS) rfl G.figures) pa_nil)))))
        (pss_cons (ps_if (PW.pt (pw_or (pt_cmpR op_eq (pv 3) (pv 2) (nomark _)) (pw_or1 (pt_cmpR op_eq (pe_ix ix_str (pv 0) (pv 2) (fun _ _ => rfl)) pe_str (nomark _)))))
          (pss_one (ps_raise rfl (takes_of rfl rfl rfl rfl) (pmk_ox N.ox iN tN FN (hr.mono (by omega)) bN pass0 (by rfl) N.mg (pa_cons (pv 2) pa_nil))))
          pss_nil)
        (pss_one (ps_ret (pe_tup (pa_cons (pe_callTy call_int_str (by rfl) T.int (by decide +kernel) (pa_cons (pe_slice sl_str (pv 0) (po_some (pv 2)) (po_some (pv 3))) pa_nil)) (pa_cons (pv 3) pa_nil))))))))), ?_⟩
    refine ⟨_, rfl, _, rfl, _, rfl, _, rfl, _, _, rfl, rfl, _, rfl, _, rfl, hl2, rfl, _, rfl, ?_⟩
    rw [cut_one, s_col, one_is]
    unfold ownR at hq
    by_cases h1 : (cs.drop j).head? = some 58
    · rw [if_pos h1] at hq
      refine ifF (by rw [decide_eq_true h1]; rfl) ?_
      have hj : j < cs.length := by
        apply Classical.byContradiction
        intro z
        rw [List.drop_eq_nil_of_le (by omega)] at h1
        cases h1
      rw [List.tail_drop] at hq
      obtain ⟨k1, k2⟩ := lead_le isFig 6 (cs.drop (j + 1))
      refine ⟨_, rfl, _, _, rfl, rfl, ?_⟩
      refine ⟨_, rfl, _, rfl, cs, j + 1, FIGS, isFig, rfl, hl, figs_has, ?_⟩
      unfold figR at hq
      refine ⟨_, rfl, _, rfl, rfl, _, rfl, ?_⟩
      have raised : BadAt C H (j + 1) E → ∀ a, H a = none → spOneD K C "at" 0 [.ref a, .int (((j + 1 : Nat)) : Int)] (upd H a (exo a C none)) (fun v H2 => v = .non ∧ ∃ dd fs, H2 a = some (exo a C (some dd)) ∧ H2 dd = some (exd dd fs) ∧ H dd = none ∧ E (.ref C) (some dd) (upd (del H2 a) dd (.xd fs))) (fun _ _ _ => False) :=
        fun hb a na => raise_bad hb na fun H' dd y nd nda ha hd2 hE' => ⟨ha, hd2, nd, hE'⟩
      by_cases h2 : lead isFig 6 (cs.drop (j + 1)) = 0
      · rw [if_pos (by simp [h2])] at hq
        refine ifT (decide_eq_true (congrArg V.int (by omega))) (iteT ?_)
        exact ⟨_, rfl, by show 1 ≤ 1000; decide, raised hq⟩
      · refine ifF (decide_eq_false (fun z => h2 (by have := V.int.inj z; omega))) ?_
        have hj2 : j + 1 < cs.length := by
          rw [List.length_drop] at k2
          omega
        obtain ⟨c, hc, hd⟩ := drop_at hj2
        refine ⟨_, rfl, _, rfl, SX.S cs, _, c, rfl, rfl, hl2, atI_nat hc, rfl, _, rfl, ?_⟩
        rw [s_nil, s_dec]
        by_cases h3 : c = 48
        · rw [if_pos (by rw [hd, h3]; simp)] at hq
          refine ifT (decide_eq_true (by rw [h3])) ?_
          exact ⟨_, rfl, by show 1 ≤ 1000; decide, raised hq⟩
        · rw [if_neg (by rw [hd]; rw [hd] at h2; simp [h2, h3])] at hq
          refine ifF (decide_eq_false (by simpa using h3)) ?_
          refine ⟨_, rfl, _, rfl, _, rfl, _, rfl, _, rfl, _, rfl, hl2, ?_⟩
          have ecut : cutS (SX.S cs) (some ((j : Int) + 1)) (some (((j + 1 + lead isFig 6 (cs.drop (j + 1)) : Nat)) : Int)) = SX.S ((cs.drop (j + 1)).take (lead isFig 6 (cs.drop (j + 1)))) := by
            have h := cut_nat cs (j + 1) (j + 1 + lead isFig 6 (cs.drop (j + 1)))
            rw [show j + 1 + lead isFig 6 (cs.drop (j + 1)) - (j + 1) = lead isFig 6 (cs.drop (j + 1)) by omega] at h
            exact h
          have e1 := lead_all isFig 6 (cs.drop (j + 1))
          have e2 : ((cs.drop (j + 1)).take (lead isFig 6 (cs.drop (j + 1)))).length = lead isFig 6 (cs.drop (j + 1)) := by
            rw [List.length_take]
            omega
          refine ⟨SX.S ((cs.drop (j + 1)).take (lead isFig 6 (cs.drop (j + 1)))), ((NumText.digitsVal ((cs.drop (j + 1)).take (lead isFig 6 (cs.drop (j + 1)))) : Nat) : Int), congrArg (fun z => [V.str z]) ecut, SX.int_S (List.all_eq_true.mpr e1) (fun z => h2 (by rw [← e2, z]; rfl)) (by omega), by rw [SX.S_len]; omega, ?_⟩
          exact ⟨_, rfl, by show 2 ≤ sizeLine; decide, fun q nq => hq _ q (same_upd nq) upd_same⟩
    · rw [if_neg h1] at hq
      refine ifT (by rw [decide_eq_false h1]; rfl) ?_
      exact ⟨_, rfl, by show 2 ≤ sizeLine; decide, fun q nq => hq _ q (same_upd nq) upd_same⟩
end
/-! ### nodes, parts, trees -/
abbrev s_parts_from : Stmt := top 20
abbrev N_parts_from : List Str := ["text", "at", "deep", "parts", "part", "sign"]
abbrev P_parts_from : List Str := ["text", "at", "deep"]
theorem sc_parts_from : FnScope N_parts_from P_parts_from (defScope s_parts_from) := ⟨rfl, rfl, rfl, by decide +kernel, rfl, by decide +kernel, by decide +kernel⟩
abbrev s_node_from : Stmt := top 21
abbrev N_node_from : List Str := ["text", "at", "deep", "making", "own", "parts"]
abbrev P_node_from : List Str := ["text", "at", "deep"]
theorem sc_node_from : FnScope N_node_from P_node_from (defScope s_node_from) := ⟨rfl, rfl, rfl, by decide +kernel, rfl, by decide +kernel, by decide +kernel⟩
abbrev s_tree_in : Stmt := top 22
abbrev N_tree_in : List Str := ["text", "tree", "behind"]
abbrev P_tree_in : List Str := ["text"]
theorem sc_tree_in : FnScope N_tree_in P_tree_in (defScope s_tree_in) := ⟨rfl, rfl, rfl, by decide +kernel, rfl, by decide +kernel, by decide +kernel⟩
def partsG (nd : Nat → List Nat → Rs PyData) : Nat → List PyData → Nat → List Nat → Rs (List PyData)
  | 0, _, j, _ => .bad j
  | k + 1, ds, j, r => (nd j r).bind fun t j1 r1 => if r1.head? = some 41 then .ok (ds ++ [t]) (j1 + 1) r1.tail else if r1.head? = some 44 ∧ k ≠ 0 then partsG nd k (ds ++ [t]) (j1 + 1) r1.tail else .bad j1
theorem parts_two (nd : Nat → List Nat → Rs PyData) (j : Nat) (r : List Nat) : partsR nd j r = partsG nd 2 [] j r := by
  unfold partsR
  show _ = (nd j r).bind fun t j1 r1 => if r1.head? = some 41 then .ok ([] ++ [t]) (j1 + 1) r1.tail else if r1.head? = some 44 ∧ 1 ≠ 0 then partsG nd 1 ([] ++ [t]) (j1 + 1) r1.tail else .bad j1
  congr 1
  funext t j1 r1
  by_cases h1 : r1.head? = some 41
  · rw [if_pos h1, if_pos h1]
    rfl
  · rw [if_neg h1, if_neg h1]
    by_cases h2 : r1.head? = some 44
    · rw [if_pos h2, if_pos ⟨h2, by decide⟩]
      show _ = (nd (j1 + 1) r1.tail).bind fun t2 j2 r2 => if r2.head? = some 41 then .ok ([] ++ [t] ++ [t2]) (j2 + 1) r2.tail else if r2.head? = some 44 ∧ 0 ≠ 0 then partsG nd 0 ([] ++ [t] ++ [t2]) (j2 + 1) r2.tail else .bad j2
      congr 1
      funext t2 j2 r2
      by_cases h3 : r2.head? = some 41
      · rw [if_pos h3, if_pos h3]
        rfl
      · rw [if_neg h3, if_neg h3, if_neg (fun z => z.2 rfl)]
    · rw [if_neg h2, if_neg (fun z => h2 z.1)]
def DropR {α : Type} (cs : List Nat) (x : Rs α) : Prop := ∀ a j r, x = .ok a j r → r = cs.drop j
theorem name_drop (cs : List Nat) (j : Nat) : DropR cs (nameR j (cs.drop j)) := by
  intro a j1 r e
  unfold nameR at e
  split at e
  · cases e
  · cases e
    rw [List.drop_drop]
theorem own_drop (cs : List Nat) (j : Nat) : DropR cs (ownR j (cs.drop j)) := by
  intro a j1 r e
  unfold ownR at e
  split at e
  · unfold figR at e
    split at e
    · cases e
    · cases e
      rw [List.tail_drop, List.drop_drop]
  · cases e
    rfl
theorem bind_ok {α β : Type} {x : Rs α} {f : α → Nat → List Nat → Rs β} {b : β} {j : Nat} {r : List Nat} (h : x.bind f = .ok b j r) : ∃ a j1 r1, x = .ok a j1 r1 ∧ f a j1 r1 = .ok b j r := by
  cases x with
  | bad p => cases h
  | ok a j1 r1 => exact ⟨a, j1, r1, rfl, h⟩
theorem parts_drop {cs : List Nat} {nd : Nat → List Nat → Rs PyData} (hn : ∀ j, DropR cs (nd j (cs.drop j))) (j : Nat) : DropR cs (partsR nd j (cs.drop j)) := by
  intro a j1 r e
  unfold partsR at e
  obtain ⟨t1, k1, r1, e1, e⟩ := bind_ok e
  have d1 := hn j _ _ _ e1
  split at e
  · cases e
    rw [d1, List.tail_drop]
  · split at e
    · rw [d1, List.tail_drop] at e
      obtain ⟨t2, k2, r2, e2, e⟩ := bind_ok e
      have d2 := hn _ _ _ _ e2
      split at e
      · cases e
        rw [d2, List.tail_drop]
      · cases e
    · cases e
theorem node_drop (cs : List Nat) : ∀ (m j : Nat), DropR cs (nodeR m j (cs.drop j)) := by
  intro m
  induction m with
  | zero =>
    intro j a j1 r e
    unfold nodeR at e
    obtain ⟨w, k1, r1, e1, e⟩ := bind_ok e
    rw [name_drop cs j _ _ _ e1] at e
    obtain ⟨n, k2, r2, e2, e⟩ := bind_ok e
    rw [own_drop cs k1 _ _ _ e2] at e
    cases e
    rfl
  | succ m ih =>
    intro j a j1 r e
    unfold nodeR at e
    obtain ⟨w, k1, r1, e1, e⟩ := bind_ok e
    rw [name_drop cs j _ _ _ e1] at e
    obtain ⟨n, k2, r2, e2, e⟩ := bind_ok e
    rw [own_drop cs k1 _ _ _ e2] at e
    split at e
    · rw [List.tail_drop] at e
      obtain ⟨ds, k3, r3, e3, e⟩ := bind_ok e
      have d3 := parts_drop ih _ _ _ _ e3
      cases e
      exact d3
    · cases e
      rfl
def spNode (K : PySem.W.Frag) (C : Addr) (m : Nat) : Sp := fun vs H Q E => ∃ (cs : List Nat) (j deep : Nat), vs = [.str (SX.S cs), .int j, .int deep] ∧ cs.length ≤ 5000 ∧ deep + m = 30 ∧ match nodeR m j (cs.drop j) with
  | .ok t j1 _ => ∀ (H' : Hp) (q : Addr) (v : V), Same H H' → H' q = some (.tup [v, .int (j1 : Nat)]) → Dp K (Nw H H') v t → Q (.ref q) H'
  | .bad p => BadAt C H p E
def PQ (K : PySem.W.Frag) (C : Addr) (H : Hp) (Q : VK) (E : XK) (x : Rs (List PyData)) : Prop := match x with
  | .ok ds j1 _ => ∀ (H' : Hp) (q tp : Addr), Same H H' → H' q = some (.tup [.ref tp, .int (j1 : Nat)]) → Dp K (Nw H H') (.ref tp) (.tuple ds) → Q (.ref q) H'
  | .bad p => BadAt C H p E
def spParts (K : PySem.W.Frag) (C : Addr) (m : Nat) : Sp := fun vs H Q E => ∃ (cs : List Nat) (j deep : Nat), vs = [.str (SX.S cs), .int j, .int deep] ∧ cs.length ≤ 5000 ∧ deep + m = 30 ∧ PQ K C H Q E (partsR (nodeR m) j (cs.drop j))
def spTree (K : PySem.W.Frag) (C : Addr) : Sp := fun vs H Q E => ∃ cs : List Nat, vs = [.str (SX.S cs)] ∧ cs.length ≤ 5000 ∧ match treeR cs with
  | .ok t _ _ => ∀ (H' : Hp) (v : V), Same H H' → Dp K (Nw H H') v t → Q v H'
  | .bad p => BadAt C H p E
theorem s_shut : ((")" : String) : Str) = SX.S [41] := by decide +kernel
theorem s_open : (("(" : String) : Str) = SX.S [40] := by decide +kernel
theorem s_com : (("," : String) : Str) = SX.S [44] := by decide +kernel
theorem Nw.grow {H H1 H2 : Hp} (s : Same H1 H2) : Same (Nw H H1) (Nw H H2) := fun b o e => by
  obtain ⟨e1, e2⟩ := Nw.get e
  exact Nw.mk e1 (s _ _ e2)
section
variable {P : Program} {w : World} {K : PySem.W.Frag} {mg : Str → Option Value} {base : Heap} {C : Addr}
theorem ok_parts_from {kp m : Nat} (hkp : 4 ≤ kp) (T : Tx mg) (G : Gl9 mg) (cnode_from : CalX P w K mg base kp "node_from" (spNode K C m) []) (N : OxD K mg C "ValueError" "BadText" "BadText.__init__" s_BadText N_BadText)
    (nl : ∀ f fd, L2.Fun K "__init__" "BadText.__init__" s_BadText f fd → FnOk P w K mg base CX0 2 f fd N_BadText (spOneD K C "at" 0)) (D : Dd K mg "parts_from" s_parts_from P_parts_from) : CalX P w K mg base (kp + 1) "parts_from" (spParts K C m) [] := by
  obtain ⟨f, fd, F, g, b⟩ := D.ex
  obtain ⟨fN, fdN, FF, bN, iN, tN⟩ := N.ex
  have FN := nl _ _ FF
  refine ⟨f, fd, _, [], F.okX sc_parts_from (fun vs H Q E h => ?_) (fun cdv A' outer s H vs Q E hr h => ?_), g, F.kp, b, .nil⟩
  · obtain ⟨cs, j, deep, rfl, _⟩ := h
    rfl
  · obtain ⟨cs, j, deep, rfl, hl, hdm, hq⟩ := h
    have hl2 : (SX.S cs).length ≤ sizeLine := by
      rw [SX.S_len]
      exact Nat.le_trans hl (by decide)
    rw [parts_two] at hq
    refine ⟨_, (pss_cons (ps_set (i := 3) sc_parts_from.nd rfl (Or.inl rfl) (pe_lst pa_nil))
        (pss_one (ps_while (passes_of rfl) (pt_val pe_bl)
          (pss_cons (ps_asg (pe_cT cnode_from hr (by omega) (by rfl) (takes_of rfl rfl rfl rfl) (pa_cons (pv 0) (pa_cons (pv 1) (pa_cons (pv 2) pa_nil)))) (pg_tup rfl (pgs_cons (pg_name (i := 4) sc_parts_from.nd rfl (Or.inl rfl)) (pgs_cons (pg_name (i := 1) sc_parts_from.nd rfl (Or.inl rfl)) pgs_nil))))
        (pss_cons (ps_expr (pe_bm PySem.F.plainAttrs_list PySem.F.slot_list_append PySem.F.type_list_append mt_append (pv 3) (pa_cons (pv 4) pa_nil)))
        (pss_cons (ps_set (i := 5) sc_parts_from.nd rfl (Or.inl rfl) (pe_slice sl_str (pv 0) (po_some (pv 1)) (po_some (pe_op op_add (pv 1) pe_int))))
        (pss_cons (ps_if (pt_cmpR op_eq (pv 5) pe_str (nomark _))
          (pss_one (ps_ret (pe_tup (pa_cons (pe_callTy call_tuple_of (by rfl) T.tuple (by decide +kernel) (pa_cons (pv 3) pa_nil)) (pa_cons (pe_op op_add (pv 1) pe_int) pa_nil)))))
          pss_nil)
        (pss_cons (ps_if (PW.pt (pw_or (pt_cmpR op_ne (pv 5) pe_str (nomark _)) (pw_or1 (pt_cmpR op_eq (pe_callB call_len_seq (by rfl) T.len PySem.boot_len (pa_cons (pv 3) pa_nil)) (C8.pe_gc (v := .int 2) rfl G.most) (nomark _)))))
          (pss_one (ps_raise rfl (takes_of rfl rfl rfl rfl) (pmk_ox N.ox iN tN FN (hr.mono (by omega)) bN pass0 (by rfl) N.mg (pa_cons (pv 1) pa_nil))))
          pss_nil)
        (pss_one (ps_aug (i := 1) sc_parts_from.nd rfl (Or.inl rfl) pe_int ip_add)))))))))), ?_⟩
    refine ⟨by show 0 ≤ sizeLine; decide, fun L nL => ?_⟩
    have s0 := same_upd (o := .lst []) nL
    refine ⟨fun m' σ H3 => ∃ (j' : Nat) (ds : List PyData) (vs : List V) (y4 y5 : Option V), σ = [some (.str (SX.S cs)), some (.int j'), some (.int deep), some (.ref L), y4, y5] ∧ Same H H3 ∧ H3 L = some (.lst vs) ∧ DpAll K (Nw (upd H L (.lst [])) H3) vs ds ∧ ds.length + m' = 2 ∧ 1 ≤ m' ∧ PQ K C H Q E (partsG (nodeR m) m' ds j' (cs.drop j')),
      ⟨2, j, [], [], none, none, rfl, s0, upd_same, .nil, rfl, by decide, hq⟩, ?_⟩
    rintro m' σ H3 ⟨j', ds, vs, y4, y5, rfl, s3, hL3, hdp, hdl, hm1, hpq⟩
    obtain ⟨k, rfl⟩ : ∃ k, m' = k + 1 := ⟨m' - 1, by omega⟩
    refine ⟨_, rfl, iteT ?_⟩
    refine ⟨fun σ' H' => ∃ (j' : Nat) (ds : List PyData) (vs : List V) (y4 y5 : Option V), σ' = [some (.str (SX.S cs)), some (.int j'), some (.int deep), some (.ref L), y4, y5] ∧ Same H H' ∧ H' L = some (.lst vs) ∧ DpAll K (Nw (upd H L (.lst [])) H') vs ds ∧ ds.length + k = 2 ∧ 1 ≤ k ∧ PQ K C H Q E (partsG (nodeR m) k ds j' (cs.drop j')), fun σ' H' h => ⟨k, Nat.lt_succ_self k, h⟩, ?_⟩
    have lvs := dpAll_len hdp
    refine ⟨_, rfl, _, rfl, _, rfl, cs, j', deep, rfl, hl, hdm, ?_⟩
    have ed := node_drop cs m j'
    have hpq : PQ K C H Q E ((nodeR m j' (cs.drop j')).bind fun t j1 r1 => if r1.head? = some 41 then .ok (ds ++ [t]) (j1 + 1) r1.tail else if r1.head? = some 44 ∧ k ≠ 0 then partsG (nodeR m) k (ds ++ [t]) (j1 + 1) r1.tail else .bad j1) := hpq
    cases en : nodeR m j' (cs.drop j') with
    | bad p =>
      rw [en] at hpq
      exact (show BadAt C H p E from hpq).grow s3
    | ok t j1 r1 =>
      rw [en] at hpq
      have er := ed _ _ _ en
      have hpq : PQ K C H Q E (if r1.head? = some 41 then .ok (ds ++ [t]) (j1 + 1) r1.tail else if r1.head? = some 44 ∧ k ≠ 0 then partsG (nodeR m) k (ds ++ [t]) (j1 + 1) r1.tail else .bad j1) := hpq
      rw [er] at hpq
      intro H4 q v s4 hq4 hv
      refine ⟨q, _, rfl, SqT.of hq4, rfl, _, _, rfl, _, _, rfl, rfl, ?_⟩
      have hL4 := s4 _ _ hL3
      refine ⟨_, rfl, .inl ⟨rfl, _, SqL.of hL4⟩, _, rfl, L, vs, v, rfl, rfl, hL4, by rw [lvs]; exact small1000 (by omega), ?_⟩
      have dvs : DpAll K (Nw (upd H L (.lst [])) (upd H4 L (.lst (vs ++ [v])))) (vs ++ [v]) (ds ++ [t]) := by
        refine dpAll_snoc (dpAll_same (fun c o e => ?_) hdp) (dp_same (fun c o e => ?_) hv)
        · obtain ⟨c1, c2⟩ := Nw.get e
          have nc : c ≠ L := fun z => by
            rw [z, upd_same] at c1
            cases c1
          exact Nw.mk c1 (by rw [upd_ne nc]; exact s4 _ _ c2)
        · obtain ⟨c1, c2⟩ := Nw.get e
          have nc : c ≠ L := fun z => by
            rw [z, hL3] at c1
            cases c1
          exact Nw.mk (by rw [upd_ne nc]; exact s3.free c1) (by rw [upd_ne nc]; exact c2)
      have s5 : Same H (upd H4 L (.lst (vs ++ [v]))) := Same.at_ (s3.trans s4) nL
      have hL5 : (upd H4 L (.lst (vs ++ [v]))) L = some (.lst (vs ++ [v])) := upd_same
      obtain ⟨H5, e5⟩ : ∃ H5, H5 = upd H4 L (.lst (vs ++ [v])) := ⟨_, rfl⟩
      rw [← e5] at dvs s5 hL5 ⊢
      refine ⟨_, rfl, _, rfl, _, rfl, _, rfl, _, _, rfl, rfl, _, rfl, _, rfl, hl2, ?_⟩
      refine ⟨_, rfl, rfl, _, rfl, ?_⟩
      rw [cut_one, s_shut, one_is]
      by_cases h1 : (cs.drop j1).head? = some 41
      · rw [if_pos h1] at hpq
        refine ifT (decide_eq_true h1) ?_
        refine ⟨_, rfl, L, _, rfl, .inl ⟨SqL.of hL5, fun tp ntp => ?_⟩⟩
        refine ⟨_, rfl, _, _, rfl, rfl, by show 2 ≤ sizeLine; decide, fun q5 nq5 => ?_⟩
        have g1 := same_upd (o := .tup (vs ++ [v])) ntp
        have g2 := same_upd (o := .tup [.ref tp, .int ((j1 : Int) + 1)]) nq5
        refine hpq _ q5 tp (s5.trans (g1.trans g2)) upd_same (.tup (SqT.of (Nw.mk (s5.free ntp) (g2 _ _ upd_same))) (dpAll_same (fun c o e => ?_) dvs))
        obtain ⟨c1, c2⟩ := Nw.get e
        have nc : c ≠ L := fun z => by
          rw [z, upd_same] at c1
          cases c1
        rw [upd_ne nc] at c1
        exact Nw.mk c1 (g2 _ _ (g1 _ _ c2))
      · rw [if_neg h1] at hpq
        refine ifF (decide_eq_false h1) ?_
        refine ⟨_, rfl, rfl, _, rfl, ?_⟩
        rw [s_com, one_is]
        by_cases h2 : (cs.drop j1).head? = some 44
        · refine ifF (by rw [decide_eq_true h2]; rfl) ?_
          refine ⟨_, rfl, L, _, rfl, .inl (SqL.of hL5), rfl, _, rfl, ?_⟩
          by_cases h3 : k = 0
          · rw [if_neg (fun z => z.2 h3)] at hpq
            refine ifT (decide_eq_true (congrArg V.int (by rw [List.length_append, lvs]; show ((ds.length + 1 : Nat) : Int) = 2; omega))) ?_
            exact ⟨_, rfl, by show 1 ≤ 1000; decide, fun a na => raise_bad ((show BadAt C H j1 E from hpq).grow s5) na fun H' dd y nd nda ha hd2 hE' => ⟨ha, hd2, nd, hE'⟩⟩
          · rw [if_pos ⟨h2, h3⟩, List.tail_drop] at hpq
            refine ifF (decide_eq_false (fun z => ?_)) ?_
            · have z2 := V.int.inj z
              rw [List.length_append, lvs] at z2
              have z3 : ((ds.length + 1 : Nat) : Int) = 2 := z2
              omega
            · refine ⟨_, rfl, _, _, rfl, rfl, j1 + 1, ds ++ [t], vs ++ [v], _, _, rfl, s5, hL5, dvs, by rw [List.length_append]; show ds.length + 1 + k = 2; omega, by omega, hpq⟩
        · rw [if_neg (fun z => h2 z.1)] at hpq
          refine ifT (by rw [decide_eq_false h2]; rfl) (iteT ?_)
          exact ⟨_, rfl, by show 1 ≤ 1000; decide, fun a na => raise_bad ((show BadAt C H j1 E from hpq).grow s5) na fun H' dd y nd nda ha hd2 hE' => ⟨ha, hd2, nd, hE'⟩⟩
end
def restN : Nat → List Nat → Nat → Nat → List Nat → Rs PyData
  | 0, w, n, j, r => .ok (mkT w n []) j r
  | m + 1, w, n, j, r => if r.head? = some 40 then (partsR (nodeR m) (j + 1) r.tail).bind fun ds j3 r3 => .ok (mkT w n ds) j3 r3 else .ok (mkT w n []) j r
def NQ (K : PySem.W.Frag) (C : Addr) (H : Hp) (Q : VK) (E : XK) (x : Rs PyData) : Prop := match x with
  | .ok t j1 _ => ∀ (H' : Hp) (q : Addr) (v : V), Same H H' → H' q = some (.tup [v, .int (j1 : Nat)]) → Dp K (Nw H H') v t → Q (.ref q) H'
  | .bad p => BadAt C H p E
section
variable {P : Program} {w : World} {K : PySem.W.Frag} {mg : Str → Option Value} {base : Heap} {C : Addr}
/-- one node, all of its parts read by parts_from -/
theorem ok_node_from {kp m : Nat} (hkp : 4 ≤ kp) (T : Tx mg) (G : Gl9 mg) {spP : Sp} (hP : ∀ m', m = m' + 1 → spP = spParts K C m') (cname_from : CalX P w K mg base 4 "name_from" (spName C) []) (cown_from : CalX P w K mg base 4 "own_from" (spOwn C) [])
    (cparts_from : CalX P w K mg base kp "parts_from" spP []) (D : Dd K mg "node_from" s_node_from P_node_from) : CalX P w K mg base (kp + 1) "node_from" (spNode K C m) [] := by
  obtain ⟨f, fd, F, g, b⟩ := D.ex
  refine ⟨f, fd, _, [], F.okX sc_node_from (fun vs H Q E h => ?_) (fun cdv A' outer s H vs Q E hr h => ?_), g, F.kp, b, .nil⟩
  · obtain ⟨cs, j, deep, rfl, _⟩ := h
    rfl
  · obtain ⟨cs, j, deep, rfl, hl, hdm, hq⟩ := h
    have hl2 : (SX.S cs).length ≤ sizeLine := by
      rw [SX.S_len]
      exact Nat.le_trans hl (by decide)
    refine ⟨_, (pss_cons (ps_asg (pe_cT cname_from hr (by omega) (by rfl) (takes_of rfl rfl rfl rfl) (pa_cons (pv 0) (pa_cons (pv 1) pa_nil))) (pg_tup rfl (pgs_cons (pg_name (i := 3) sc_node_from.nd rfl (Or.inl rfl)) (pgs_cons (pg_name (i := 1) sc_node_from.nd rfl (Or.inl rfl)) pgs_nil))))
        (pss_cons (ps_asg (pe_cT cown_from hr (by omega) (by rfl) (takes_of rfl rfl rfl rfl) (pa_cons (pv 0) (pa_cons (pv 1) pa_nil))) (pg_tup rfl (pgs_cons (pg_name (i := 4) sc_node_from.nd rfl (Or.inl rfl)) (pgs_cons (pg_name (i := 1) sc_node_from.nd rfl (Or.inl rfl)) pgs_nil))))
        (pss_cons (ps_set (i := 5) sc_node_from.nd rfl (Or.inl rfl) (pe_tup pa_nil))
        (pss_cons (ps_if (PW.pt (pw_and (pt_cmpR op_eq (pe_slice sl_str (pv 0) (po_some (pv 1)) (po_some (pe_op op_add (pv 1) pe_int))) pe_str (nomark _)) (pw_and1 (pt_cmpR op_lt (pv 2) (C8.pe_gc (v := .int 30) rfl G.places) (nomark _)))))
          (pss_one (ps_asg (pe_cT cparts_from hr (by omega) (by rfl) (takes_of rfl rfl rfl rfl) (pa_cons (pv 0) (pa_cons (pe_op op_add (pv 1) pe_int) (pa_cons (pe_op op_add (pv 2) pe_int) pa_nil)))) (pg_tup rfl (pgs_cons (pg_name (i := 5) sc_node_from.nd rfl (Or.inl rfl)) (pgs_cons (pg_name (i := 1) sc_node_from.nd rfl (Or.inl rfl)) pgs_nil)))))
          pss_nil)
        (pss_one (ps_ret (pe_tup (pa_cons (pe_tup (pa_cons (pv 3) (pa_cons (pv 4) (pa_cons (pv 5) pa_nil)))) (pa_cons (pv 1) pa_nil))))))))), ?_⟩
    refine ⟨_, rfl, _, rfl, cs, j, rfl, hl, ?_⟩
    have dn := name_drop cs j
    have unf : nodeR m j (cs.drop j) = (nameR j (cs.drop j)).bind fun w j1 r1 => (ownR j1 r1).bind fun n j2 r2 => restN m w n j2 r2 := by
      cases m <;> rfl
    have hq : NQ K C H Q E (nodeR m j (cs.drop j)) := hq
    rw [unf] at hq
    cases en : nameR j (cs.drop j) with
    | bad p =>
      rw [en] at hq
      exact hq
    | ok wd j1 r1 =>
      rw [en] at hq
      have er := dn _ _ _ en
      subst er
      intro H1 q1 s1 hq1
      refine ⟨q1, _, rfl, SqT.of hq1, rfl, _, _, rfl, _, _, rfl, rfl, ?_⟩
      refine ⟨_, rfl, _, rfl, cs, j1, rfl, hl, ?_⟩
      have do_ := own_drop cs j1
      have hq : NQ K C H Q E ((ownR j1 (cs.drop j1)).bind fun n j2 r2 => restN m wd n j2 r2) := hq
      cases eo : ownR j1 (cs.drop j1) with
      | bad p =>
        rw [eo] at hq
        exact (show BadAt C H p E from hq).grow s1
      | ok n j2 r2 =>
        rw [eo] at hq
        have er := do_ _ _ _ eo
        subst er
        intro H2 q2 s2 hq2
        have s12 := s1.trans s2
        refine ⟨q2, _, rfl, SqT.of hq2, rfl, _, _, rfl, _, _, rfl, rfl, ?_⟩
        refine ⟨by show 0 ≤ sizeLine; decide, fun tp ntp => ?_⟩
        have g3 := same_upd (o := .tup []) ntp
        have htp : (upd H2 tp (.tup [])) tp = some (.tup []) := upd_same
        have ntpH := s12.free ntp
        have s13 := s12.trans g3
        obtain ⟨H3, e3⟩ : ∃ H3, H3 = upd H2 tp (.tup []) := ⟨_, rfl⟩
        rw [← e3] at g3 htp s13 ⊢
        refine ⟨_, rfl, _, rfl, _, rfl, _, rfl, _, _, rfl, rfl, _, rfl, _, rfl, hl2, ?_⟩
        refine ⟨rfl, _, rfl, ?_⟩
        rw [cut_one, s_open, one_is]
        have hq : NQ K C H Q E (restN m wd n j2 (cs.drop j2)) := hq
        -- without parts
        have bare : (∀ (H' : Hp) (q : Addr) (v : V), Same H H' → H' q = some (.tup [v, .int (j2 : Nat)]) → Dp K (Nw H H') v (mkT wd n []) → Q (.ref q) H') → ∀ p1, H3 p1 = none → ∀ p2, (upd H3 p1 (.tup [.str (SX.S wd), .int (n : Nat), .ref tp])) p2 = none → Q (.ref p2) (upd (upd H3 p1 (.tup [.str (SX.S wd), .int (n : Nat), .ref tp])) p2 (.tup [.ref p1, .int (j2 : Nat)])) := fun hh p1 n1 p2 n2 => by
          have k1 := same_upd (o := .tup [.str (SX.S wd), .int (n : Nat), .ref tp]) n1
          have k2 := same_upd (o := .tup [.ref p1, .int (j2 : Nat)]) n2
          refine hh _ p2 (.ref p1) (s13.trans (k1.trans k2)) upd_same ?_
          exact .tup (SqT.of (Nw.mk (s13.free n1) (k2 _ _ upd_same))) (.cons (.str _) (.cons (.int _) (.cons (.tup (SqT.of (Nw.mk ntpH (k2 _ _ (k1 _ _ htp)))) .nil) .nil)))
        by_cases h1 : (cs.drop j2).head? = some 40
        · refine ifT (decide_eq_true h1) ?_
          refine ⟨_, rfl, _, _, rfl, rfl, _, rfl, ?_⟩
          cases m with
          | zero =>
            refine ifF (decide_eq_false (by omega)) ?_
            exact ⟨_, rfl, _, rfl, _, rfl, by show 3 ≤ sizeLine; decide, fun p1 n1 => ⟨_, rfl, by show 2 ≤ sizeLine; decide, fun p2 n2 => bare hq p1 n1 p2 n2⟩⟩
          | succ m =>
            refine ifT (decide_eq_true (by omega)) ?_
            have hq : NQ K C H Q E (if (cs.drop j2).head? = some 40 then (partsR (nodeR m) (j2 + 1) (cs.drop j2).tail).bind fun ds j3 r3 => .ok (mkT wd n ds) j3 r3 else .ok (mkT wd n []) j2 (cs.drop j2)) := hq
            rw [if_pos h1, List.tail_drop] at hq
            rw [hP m rfl]
            refine ⟨_, rfl, _, rfl, _, _, rfl, rfl, _, rfl, _, _, rfl, rfl, cs, j2 + 1, deep + 1, rfl, hl, by omega, ?_⟩
            unfold PQ
            cases ep : partsR (nodeR m) (j2 + 1) (cs.drop (j2 + 1)) with
            | bad p =>
              rw [ep] at hq
              exact (show BadAt C H p E from hq).grow s13
            | ok ds j3 r3 =>
              rw [ep] at hq
              intro H4 q4 tq s4 hq4 hdp
              refine ⟨q4, _, rfl, SqT.of hq4, rfl, _, _, rfl, _, _, rfl, rfl, ?_⟩
              refine ⟨_, rfl, _, rfl, _, rfl, by show 3 ≤ sizeLine; decide, fun p1 n1 => ⟨_, rfl, by show 2 ≤ sizeLine; decide, fun p2 n2 => ?_⟩⟩
              have k1 := same_upd (o := .tup [.str (SX.S wd), .int (n : Nat), .ref tq]) n1
              have k2 := same_upd (o := .tup [.ref p1, .int (j3 : Nat)]) n2
              have s14 := s13.trans s4
              refine hq _ p2 (.ref p1) (s14.trans (k1.trans k2)) upd_same ?_
              refine .tup (SqT.of (Nw.mk (s14.free n1) (k2 _ _ upd_same))) (.cons (.str _) (.cons (.int _) (.cons (dp_same (fun c o e => ?_) hdp) .nil)))
              obtain ⟨c1, c2⟩ := Nw.get e
              exact Nw.mk (s13.free c1) (k2 _ _ (k1 _ _ c2))
        · refine ifF (decide_eq_false h1) ?_
          refine ⟨_, rfl, _, rfl, _, rfl, by show 3 ≤ sizeLine; decide, fun p1 n1 => ⟨_, rfl, by show 2 ≤ sizeLine; decide, fun p2 n2 => bare ?_ p1 n1 p2 n2⟩⟩
          cases m with
          | zero => exact hq
          | succ m =>
            have hq : NQ K C H Q E (if (cs.drop j2).head? = some 40 then (partsR (nodeR m) (j2 + 1) (cs.drop j2).tail).bind fun ds j3 r3 => .ok (mkT wd n ds) j3 r3 else .ok (mkT wd n []) j2 (cs.drop j2)) := hq
            rw [if_neg h1] at hq
            exact hq
theorem ok_nodes (T : Tx mg) (G : Gl9 mg) (cname_from : CalX P w K mg base 4 "name_from" (spName C) []) (cown_from : CalX P w K mg base 4 "own_from" (spOwn C) []) (N : OxD K mg C "ValueError" "BadText" "BadText.__init__" s_BadText N_BadText)
    (nl : ∀ f fd, L2.Fun K "__init__" "BadText.__init__" s_BadText f fd → FnOk P w K mg base CX0 2 f fd N_BadText (spOneD K C "at" 0)) (D : Dd K mg "node_from" s_node_from P_node_from) (DP : Dd K mg "parts_from" s_parts_from P_parts_from) : ∀ m, CalX P w K mg base (5 + 2 * m) "node_from" (spNode K C m) [] := by
  intro m
  induction m with
  | zero =>
    have never : CalX P w K mg base 4 "parts_from" (fun _ _ _ _ => False) [] := by
      obtain ⟨f, fd, F, g, b⟩ := DP.ex
      exact ⟨f, fd, _, [], F.okX (k := 3) sc_parts_from (fun vs H Q E h => h.elim) (fun cdv A' outer s H vs Q E hr h => h.elim), g, F.kp, b, .nil⟩
    exact ok_node_from (kp := 4) (by decide) T G (fun m' e => nomatch e) cname_from cown_from never D
  | succ m ih =>
    have hp := ok_parts_from (kp := 5 + 2 * m) (by omega) T G ih N nl DP
    exact ok_node_from (kp := 5 + 2 * m + 1) (m := m + 1) (by omega) T G (fun m' e => by cases e; rfl) cname_from cown_from hp D
theorem ok_tree_in (T : Tx mg) (cnode_from : CalX P w K mg base 65 "node_from" (spNode K C 30) []) (N : OxD K mg C "ValueError" "BadText" "BadText.__init__" s_BadText N_BadText)
    (nl : ∀ f fd, L2.Fun K "__init__" "BadText.__init__" s_BadText f fd → FnOk P w K mg base CX0 2 f fd N_BadText (spOneD K C "at" 0)) (D : Dd K mg "tree_in" s_tree_in P_tree_in) : CalX P w K mg base 66 "tree_in" (spTree K C) [] := by
  obtain ⟨f, fd, F, g, b⟩ := D.ex
  obtain ⟨fN, fdN, FF, bN, iN, tN⟩ := N.ex
  have FN := nl _ _ FF
  refine ⟨f, fd, _, [], F.okX sc_tree_in (fun vs H Q E h => ?_) (fun cdv A' outer s H vs Q E hr h => ?_), g, F.kp, b, .nil⟩
  · obtain ⟨cs, rfl, _⟩ := h
    rfl
  · obtain ⟨cs, rfl, hl, hq⟩ := h
    have hl2 : (SX.S cs).length ≤ sizeLine := by
      rw [SX.S_len]
      exact Nat.le_trans hl (by decide)
    refine ⟨_, (pss_cons (ps_asg (pe_cT cnode_from hr (by omega) (by rfl) (takes_of rfl rfl rfl rfl) (pa_cons (pv 0) (pa_cons pe_int (pa_cons pe_int pa_nil)))) (pg_tup rfl (pgs_cons (pg_name (i := 1) sc_tree_in.nd rfl (Or.inl rfl)) (pgs_cons (pg_name (i := 2) sc_tree_in.nd rfl (Or.inl rfl)) pgs_nil))))
        (pss_cons (ps_if (pt_cmpR op_lt (pv 2) (pe_callB call_len_str (by rfl) T.len PySem.boot_len (pa_cons (pv 0) pa_nil)) (nomark _))
          (pss_one (ps_raise rfl (takes_of rfl rfl rfl rfl) (pmk_ox N.ox iN tN FN (hr.mono (by omega)) bN pass0 (by rfl) N.mg (pa_cons (pv 2) pa_nil))))
          pss_nil)
        (pss_one (ps_ret (pv 1))))), ?_⟩
    refine ⟨_, rfl, cs, 0, 0, rfl, hl, rfl, ?_⟩
    have dn := node_drop cs 30 0
    rw [List.drop_zero] at dn ⊢
    unfold treeR at hq
    cases en : nodeR 30 0 cs with
    | bad p =>
      rw [en] at hq
      exact hq
    | ok t j r =>
      rw [en] at hq
      have er := dn _ _ _ en
      subst er
      have hq : match (if cs.drop j = [] then .ok t j (cs.drop j) else .bad j : Rs PyData) with
        | .ok t _ _ => ∀ (H' : Hp) (v : V), Same H H' → Dp K (Nw H H') v t → Q v H'
        | .bad p => BadAt C H p E := hq
      intro H1 q v s1 hq1 hv
      refine ⟨q, _, rfl, SqT.of hq1, rfl, _, _, rfl, _, _, rfl, rfl, ?_⟩
      refine ⟨_, rfl, _, rfl, _, rfl, hl2, _, _, rfl, rfl, _, rfl, ?_⟩
      by_cases h1 : j < cs.length
      · rw [if_neg (fun z => by have := List.drop_eq_nil_iff.mp z; omega)] at hq
        refine ifT (decide_eq_true (by rw [SX.S_len]; omega)) ?_
        exact ⟨_, rfl, by show 1 ≤ 1000; decide, fun a na => raise_bad ((show BadAt C H j E from hq).grow s1) na fun H' dd y nd nda ha hd2 hE' => ⟨ha, hd2, nd, hE'⟩⟩
      · rw [if_pos (List.drop_eq_nil_of_le (by omega))] at hq
        refine ifF (decide_eq_false (by rw [SX.S_len]; omega)) ?_
        exact ⟨_, rfl, hq _ v s1 hv⟩
end
/-! ### sign by sign -/
abbrev s__law_bad_at : Stmt := top 33
abbrev N__law_bad_at : List Str := ["_law_text", "_law_word", "_law_figures", "_law_ended", "_law_opened", "_law_at", "_law_sign"]
abbrev P__law_bad_at : List Str := ["_law_text"]
theorem sc__law_bad_at : FnScope N__law_bad_at P__law_bad_at (defScope s__law_bad_at) := ⟨rfl, rfl, rfl, by decide +kernel, rfl, by decide +kernel, by decide +kernel⟩
def au6 (c : Nat) (r : List Nat) (e : Bool) (o : List Nat) (j : Nat) : Option Nat :=
  if (decide (c = 40) && (!e && decide (o.length < 30))) = true then auto r [] none false (1 :: o) (j + 1)
  else if (decide (c = 44) && decide (o.head? = some 1)) = true then auto r [] none false (2 :: o.tail) (j + 1)
  else if (decide (c = 41) && decide (o ≠ [])) = true then auto r [120] none true o.tail (j + 1)
  else some j
def au5 (c : Nat) (r : List Nat) (f : Option (List Nat)) (e : Bool) (o : List Nat) (j : Nat) : Option Nat := if f = some [] then some j else au6 c r e o j
def au4 (c : Nat) (r w : List Nat) (f : Option (List Nat)) (e : Bool) (o : List Nat) (j : Nat) : Option Nat :=
  if (isFig c && (decide (f ≠ none) && (decide ((f.getD []).length < 6) && decide (f.getD [] ++ [c] ≠ [48])))) = true then auto r w (some (f.getD [] ++ [c])) e o (j + 1) else au5 c r f e o j
def au3 (c : Nat) (r w : List Nat) (f : Option (List Nat)) (e : Bool) (o : List Nat) (j : Nat) : Option Nat :=
  if (decide (c = 58) && (decide (f = none) && !e)) = true then auto r w (some []) e o (j + 1) else au4 c r w f e o j
def au2 (c : Nat) (r w : List Nat) (f : Option (List Nat)) (e : Bool) (o : List Nat) (j : Nat) : Option Nat := if (noName w && !e) = true then some j else au3 c r w f e o j
theorem auto_cons (c : Nat) (r w : List Nat) (f : Option (List Nat)) (e : Bool) (o : List Nat) (j : Nat) : auto (c :: r) w f e o j = if (isLet c && (decide (f = none) && (!e && decide (w.length < 6)))) = true then auto r (w ++ [c]) f e o (j + 1) else au2 c r w f e o j := by
  conv => lhs; unfold auto
  rfl
def an5 (f : Option (List Nat)) (o : List Nat) (j : Nat) : Option Nat := if f = some [] then some j else if o = [] then none else some j
theorem auto_nil (w : List Nat) (f : Option (List Nat)) (e : Bool) (o : List Nat) (j : Nat) : auto [] w f e o j = if (noName w && !e) = true then some j else an5 f o j := by
  conv => lhs; unfold auto
  rfl
def fV : Option (List Nat) → V
  | none => .non
  | some g => .str (SX.S g)
def resV : Option Nat → V
  | none => .non
  | some p => .int (p : Nat)
def spBad : Sp := fun vs H Q _ => ∃ cs : List Nat, vs = [.str (SX.S cs)] ∧ cs.length ≤ 5000 ∧ ∀ H', Same H H' → Q (resV (auto cs [] none false [] 0)) H'
theorem s_x : (("x" : String) : Str) = SX.S [120] := by decide +kernel
theorem at_last {ws : List V} {i : Nat} {u : V} (h : ws.length = i + 1) (e : ws[i]? = some u) : atI ws (-1) = some u := by
  unfold atI ixN
  rw [if_neg (by decide), if_pos (by omega)]
  show ws[(-1 + (ws.length : Int)).toNat]? = some u
  have : (-1 + (ws.length : Int)).toNat = i := by omega
  rw [this]
  exact e
theorem s_emp : (("" : String) : Str) = SX.S [] := by decide +kernel
theorem in_words (w : List Nat) : inV (.str (SX.S w)) [.str "", .str "own"] = noName w := by
  rw [s_emp, s_own]
  show (eqV (.str (SX.S [])) (.str (SX.S w)) || (eqV (.str (SX.S OWNL)) (.str (SX.S w)) || false)) = _
  rw [Bool.or_false]
  unfold noName
  have h : ∀ a b : List Nat, eqV (.str (SX.S a)) (.str (SX.S b)) = decide (b = a) := fun a b => by
    show (SX.S a == SX.S b) = _
    rw [SX.S_beq_eq, Bool.eq_iff_iff, decide_eq_true_eq, decide_eq_true_eq]
    exact eq_comm
  rw [h, h]
def opV (o : List Nat) : List V := o.reverse.map fun k => V.int (k : Nat)
def opD (o : List Nat) : PyData := .list (o.reverse.map fun k => PyData.int (k : Nat))
theorem op_dp {K : PySem.W.Frag} {H : Hp} {L : Addr} {o : List Nat} (h : H L = some (.lst (opV o))) : Dp K H (.ref L) (opD o) := by
  refine .lst (SqL.of h) ?_
  have : ∀ l : List Nat, DpAll K H (l.map fun k => V.int (k : Nat)) (l.map fun k => PyData.int (k : Nat)) := fun l => by
    induction l with
    | nil => exact .nil
    | cons k l ih => exact .cons (.int _) ih
  exact this _
theorem nats_lay : ∀ l : List Nat, PyData.canLayAll0 (l.map fun k => PyData.int (k : Nat)) = true ∧ PyData.depthAll (l.map fun k => PyData.int (k : Nat)) = 0
  | [] => ⟨rfl, rfl⟩
  | i :: p => by
    obtain ⟨h1, h2⟩ := nats_lay p
    refine ⟨?_, ?_⟩
    · show (true && PyData.canLayAll0 (p.map fun k => PyData.int (k : Nat))) = true
      rw [h1]
      rfl
    · show max 0 (PyData.depthAll (p.map fun k => PyData.int (k : Nat))) = 0
      rw [h2]
      rfl
theorem op_shape (o : List Nat) : SeqAt.shaped (opD o) = true := by
  obtain ⟨h1, h2⟩ := nats_lay o.reverse
  unfold SeqAt.shaped
  rw [show PyData.canLay0 (opD o) = true from h1, decide_eq_true (show PyData.depth (opD o) ≤ 64 from by
    show PyData.depthAll _ + 1 ≤ 64
    rw [h2]
    decide)]
  rfl
theorem op_eqv (o : List Nat) : PyData.eqv (opD o) (.list []) = decide (o = []) := by
  cases o with
  | nil => rfl
  | cons k o =>
    unfold opD
    rw [List.reverse_cons, List.map_append]
    show PyData.eqvAll _ [] = _
    have : ∀ (l : List PyData) (d : PyData), PyData.eqvAll (l ++ [d]) [] = false := fun l d => by cases l <;> rfl
    rw [show ([k].map fun k => PyData.int (k : Nat)) = [PyData.int (k : Nat)] from rfl, this]
    rfl
theorem nil_shape : SeqAt.shaped (.list []) = true := by decide +kernel
theorem opV_len (o : List Nat) : (opV o).length = o.length := by
  unfold opV
  rw [List.length_map, List.length_reverse]
theorem opV_cons (k : Nat) (o : List Nat) : opV (k :: o) = opV o ++ [.int (k : Nat)] := by
  unfold opV
  rw [List.reverse_cons, List.map_append]
  rfl
section
variable {P : Program} {w : World} {K : PySem.W.Frag} {mg : Str → Option Value} {base : Heap}
theorem ok_bad_at (T : Bt mg) (D : Dd K mg "_law_bad_at" s__law_bad_at P__law_bad_at) : C8.Cal P w K mg base 1 "_law_bad_at" spBad [] := by
  refine D.cal sc__law_bad_at (fun vs H Q E h => ?_) (fun f cdv A outer s H vs Q E hr h => ?_)
  · obtain ⟨cs, rfl, _⟩ := h
    rfl
  · obtain ⟨cs, rfl, hl, q⟩ := h
    have hl2 : (SX.S cs).length ≤ sizeLine := by
      rw [SX.S_len]
      exact Nat.le_trans hl (by decide)
    refine ⟨_, (pss_cons (ps_asg (pe_tup (pa_cons pe_str (pa_cons pe_non (pa_cons pe_bl (pa_cons (pe_lst pa_nil) pa_nil))))) (pg_tup rfl (pgs_cons (pg_name (i := 1) sc__law_bad_at.nd rfl (Or.inl rfl)) (pgs_cons (pg_name (i := 2) sc__law_bad_at.nd rfl (Or.inl rfl)) (pgs_cons (pg_name (i := 3) sc__law_bad_at.nd rfl (Or.inl rfl)) (pgs_cons (pg_name (i := 4) sc__law_bad_at.nd rfl (Or.inl rfl)) pgs_nil))))))
        (pss_cons (ps_for PassesOwn.never rfl (pi_range1 rfl T.range (pa_cons (pe_op op_add (pe_callB call_len_str (by rfl) T.len PySem.boot_len (pa_cons (pv 0) pa_nil)) pe_int) pa_nil)) (pg_name (i := 5) sc__law_bad_at.nd rfl (Or.inl rfl))
          (pss_cons (ps_set (i := 6) sc__law_bad_at.nd rfl (Or.inl rfl) (pe_slice sl_str (pv 0) (po_some (pv 5)) (po_some (pe_op op_add (pv 5) pe_int))))
        (C8.pss_cut (ps_if (PW.pt (pw_and (pt_cmpR op_ne (pv 6) pe_str (nomark _)) (pw_and (pt_cmpR op_in_sign (pv 6) pe_str (by with_unfolding_all rfl)) (pw_and (pt_cmpR op_isN (pv 2) pe_non (nomark _)) (pw_and (pt_not (pt_val (pv 3))) (pw_and1 (pt_cmpR op_lt (pe_callB call_len_str (by rfl) T.len PySem.boot_len (pa_cons (pv 1) pa_nil)) pe_int (nomark _))))))))
          (pss_cons (ps_set (i := 1) sc__law_bad_at.nd rfl (Or.inl rfl) (pe_op op_add_str (pv 1) (pv 6)))
        (pss_one ps_continue))
          pss_nil)
        (C8.pss_cut (ps_if (PW.pt (pw_and (pt_cmpR op_in_seq (pv 1) (pe_tup (pa_cons pe_str (pa_cons pe_str pa_nil))) (by with_unfolding_all rfl)) (pw_and1 (pt_not (pt_val (pv 3))))))
          (pss_one (ps_ret (pv 5)))
          pss_nil)
        (C8.pss_cut (ps_if (PW.pt (pw_and (pt_cmpR op_eq (pv 6) pe_str (nomark _)) (pw_and (pt_cmpR op_isN (pv 2) pe_non (nomark _)) (pw_and1 (pt_not (pt_val (pv 3)))))))
          (pss_cons (ps_set (i := 2) sc__law_bad_at.nd rfl (Or.inl rfl) pe_str)
        (pss_one ps_continue))
          pss_nil)
        (C8.pss_cut (ps_if (PW.pt (pw_and (pt_cmpR op_ne (pv 6) pe_str (nomark _)) (pw_and (pt_cmpR op_in_sign (pv 6) pe_str (by with_unfolding_all rfl)) (pw_and (pt_cmpR op_notN (pv 2) pe_non (nomark _)) (pw_and (pt_cmpR op_lt (pe_callB call_len_str (by rfl) T.len PySem.boot_len (pa_cons (pv 2) pa_nil)) pe_int (nomark _)) (pw_and1 (pt_cmpR op_ne (pe_op op_add_str (pv 2) (pv 6)) pe_str (nomark _))))))))
          (pss_cons (ps_set (i := 2) sc__law_bad_at.nd rfl (Or.inl rfl) (pe_op op_add_str (pv 2) (pv 6)))
        (pss_one ps_continue))
          pss_nil)
        (C8.pss_cut (ps_if (pt_cmpR op_eq (pv 2) pe_str (nomark _))
          (pss_one (ps_ret (pv 5)))
          pss_nil)
        (C8.pss_cut (ps_if (PW.pt (pw_and (pt_cmpR op_eq (pv 6) pe_str (nomark _)) (pw_and (pt_not (pt_val (pv 3))) (pw_and1 (pt_cmpR op_lt (pe_callB call_len_seq (by rfl) T.len PySem.boot_len (pa_cons (pv 4) pa_nil)) pe_int (nomark _))))))
          (pss_one (ps_expr (pe_bm PySem.F.plainAttrs_list PySem.F.slot_list_append PySem.F.type_list_append mt_append (pv 4) (pa_cons pe_int pa_nil))))
          (pss_one (ps_if (PW.pt (pw_and (pt_cmpR op_eq (pv 6) pe_str (nomark _)) (pw_and (pt_cmpR (op_neD hr.units) (pv 4) (pe_lst pa_nil) (nomark _)) (pw_and1 (pt_cmpR op_eq (pe_ix ix_list (pv 4) (pe_un un_neg pe_int) (fun _ _ => rfl)) pe_int (nomark _))))))
          (pss_one (ps_asg pe_int (pg_sub (pv 4) (pe_un un_neg pe_int) set_list)))
          (pss_one (ps_if (PW.pt (pw_and (pt_cmpR op_eq (pv 6) pe_str (nomark _)) (pw_and1 (pt_cmpR (op_neD hr.units) (pv 4) (pe_lst pa_nil) (nomark _)))))
          (pss_one (ps_expr (pe_bm0 PySem.F.plainAttrs_list PySem.F.slot_list_pop PySem.F.type_list_pop mt_pop (pv 4))))
          (pss_one (ps_ret (pe_ifExp (PW.pt (pw_and (pt_cmpR op_eq (pv 6) pe_str (nomark _)) (pw_and1 (pt_cmpR (op_eqD hr.units) (pv 4) (pe_lst pa_nil) (nomark _))))) pe_non (pv 5)))))))))
        (pss_one (ps_par3 rfl sc__law_bad_at.nd (i := 1) (j := 2) (l := 3) rfl rfl rfl (by decide) (by decide) (by decide) rfl rfl rfl (pa_cons (pe_ix ix_list (pe_lst (pa_cons pe_str (pa_cons pe_str pa_nil))) (pe_callTy call_int1 (by rfl) T.int (by decide +kernel) (pa_cons (pe_cmpR op_eq (pv 6) pe_str (nomark _)) pa_nil)) (fun _ _ => rfl)) (pa_cons pe_non (pa_cons (pe_cmpR op_eq (pv 6) pe_str (nomark _)) pa_nil))) (by rfl)))))))))))
        (pss_one (ps_ret (pe_callB call_len_str (by rfl) T.len PySem.boot_len (pa_cons (pv 0) pa_nil)))))), ?_⟩
    refine ⟨by show 0 ≤ sizeLine; decide, fun L nL => ⟨by show 4 ≤ sizeLine; decide, fun tp nt => ⟨tp, _, rfl, SqT.of upd_same, rfl, _, _, rfl, _, _, rfl, _, _, rfl, _, _, rfl, rfl, ?_⟩⟩⟩
    have g1 := same_upd (o := .lst []) nL
    have g2 := same_upd (o := .tup [.str "", .non, .bl false, .ref L]) nt
    have hL0 := g2 _ _ (upd_same (H := H) (a := L) (o := .lst []))
    have s12 := g1.trans g2
    obtain ⟨H0, e0⟩ : ∃ H0, H0 = upd (upd H L (.lst [])) tp (.tup [.str "", .non, .bl false, .ref L]) := ⟨_, rfl⟩
    rw [← e0] at hL0 s12 ⊢
    refine ⟨_, rfl, _, rfl, hl2, _, _, rfl, rfl, _, rfl, by rw [SX.S_len]; omega, by rw [SX.S_len]; omega, ?_⟩
    rw [SX.S_len]
    obtain ⟨A0, eA⟩ : ∃ A0, A0 = auto cs [] none false [] 0 := ⟨_, rfl⟩
    rw [← eA] at q
    refine for_range (lo := 0) (fun i σ H3 => ∃ w f e o y5 y6, σ = [some (.str (SX.S cs)), some (.str (SX.S w)), some (fV f), some (.bl e), some (.ref L), y5, y6] ∧ Same H H3 ∧ H3 L = some (.lst (opV o)) ∧ w.length ≤ 6 ∧ (f.getD []).length ≤ 6 ∧ o.length ≤ 30 ∧ i ≤ cs.length ∧ auto (cs.drop i) w f e o i = A0)
      ⟨[], none, false, [], none, none, rfl, s12, hL0, by decide, by decide, by decide, Nat.zero_le _, by rw [eA]; rfl⟩ ?_ ?_
    · rintro i σ H3 hi ⟨w, f, e, o, y5, y6, rfl, s3, hL3, hw6, hg6, ho30, hic, hA⟩
      rw [Int.zero_add]
      refine ⟨_, rfl, _, rfl, _, rfl, _, rfl, _, _, rfl, rfl, _, rfl, _, rfl, hl2, ?_⟩
      rw [cut_one]
      cases hcd : cs.drop i with
      | nil =>
        have hi2 : cs.length ≤ i := List.drop_eq_nil_iff.mp hcd
        rw [hcd, auto_nil] at hA
        obtain ⟨σ0, eσ⟩ : ∃ σ0, σ0 = [some (.str (SX.S cs)), some (.str (SX.S w)), some (fV f), some (.bl e), some (.ref L), some (.int (i : Nat)), some (.str (SX.S (([] : List Nat).take 1)))] := ⟨_, rfl⟩
        refine ⟨fun σ' H' => σ' = σ0 ∧ H' = H3, ?_, ?_⟩
        · refine ⟨_, rfl, rfl, _, rfl, ifF (by decide +kernel) ?_⟩
          exact ⟨eσ.symm, rfl⟩
        rintro σ1 H4 ⟨rfl, rfl⟩
        subst eσ
        refine ⟨fun σ' H' => σ' = [some (.str (SX.S cs)), some (.str (SX.S w)), some (fV f), some (.bl e), some (.ref L), some (.int (i : Nat)), some (.str (SX.S (([] : List Nat).take 1)))] ∧ Same H4 H' ∧ an5 f o i = A0, ?_, ?_⟩
        · refine ⟨_, rfl, by show 2 ≤ sizeLine; decide, fun tq ntq => ⟨tq, _, rfl, .inr (SqT.of upd_same), rfl, rfl, _, rfl, ?_⟩⟩
          have k1 := same_upd (o := .tup [.str "", .str "own"]) ntq
          show if inV (.str (SX.S w)) [.str "", .str "own"] = true then _ else _
          rw [in_words]
          cases hn : noName w with
          | false =>
            rw [hn, if_neg (by simp)] at hA
            exact iteF ⟨rfl, k1, hA⟩
          | true =>
            refine iteT ?_
            refine ⟨_, rfl, _, rfl, ?_⟩
            cases e with
            | true =>
              rw [if_neg (by rw [hn]; decide)] at hA
              exact iteF ⟨rfl, k1, hA⟩
            | false =>
              rw [if_pos (by rw [hn]; decide)] at hA
              rw [← hA] at q
              exact iteT ⟨_, rfl, q _ (s3.trans k1)⟩
        rintro σ2 H5 ⟨rfl, s5, hA5⟩
        refine ⟨fun σ' H' => σ' = [some (.str (SX.S cs)), some (.str (SX.S w)), some (fV f), some (.bl e), some (.ref L), some (.int (i : Nat)), some (.str (SX.S (([] : List Nat).take 1)))] ∧ H' = H5, ?_, ?_⟩
        · refine ⟨_, rfl, rfl, _, rfl, ifF (by decide +kernel) ?_⟩
          exact ⟨rfl, rfl⟩
        rintro σ3 H6 ⟨rfl, rfl⟩
        refine ⟨fun σ' H' => σ' = [some (.str (SX.S cs)), some (.str (SX.S w)), some (fV f), some (.bl e), some (.ref L), some (.int (i : Nat)), some (.str (SX.S (([] : List Nat).take 1)))] ∧ H' = H6, ?_, ?_⟩
        · refine ⟨_, rfl, rfl, _, rfl, ifF (by decide +kernel) ?_⟩
          exact ⟨rfl, rfl⟩
        rintro σ4 H7 ⟨rfl, rfl⟩
        refine ⟨fun σ' H' => σ' = [some (.str (SX.S cs)), some (.str (SX.S w)), some (fV f), some (.bl e), some (.ref L), some (.int (i : Nat)), some (.str (SX.S (([] : List Nat).take 1)))] ∧ H' = H7 ∧ f ≠ some [], ?_, ?_⟩
        · cases f with
          | none => exact ⟨_, rfl, rfl, _, rfl, ifF (by decide +kernel) ⟨rfl, rfl, fun z => nomatch z⟩⟩
          | some g =>
            refine ⟨_, rfl, rfl, _, rfl, ?_⟩
            show if decide (V.str (SX.S g) = V.str "") = true then _ else _
            rw [s_emp, s_dec]
            by_cases hg : g = []
            · refine ifT (decide_eq_true hg) ?_
              unfold an5 at hA5
              rw [if_pos (by rw [hg])] at hA5
              rw [← hA5] at q
              exact ⟨_, rfl, q _ (s3.trans s5)⟩
            · exact ifF (decide_eq_false hg) ⟨rfl, rfl, fun z => hg (Option.some.inj z)⟩
        rintro σ5 H8 ⟨rfl, rfl, hf⟩
        unfold an5 at hA5
        rw [if_neg hf] at hA5
        have hL8 := s5 _ _ hL3
        have s8 := s3.trans s5
        refine ⟨fun _ _ => False, ?_, fun _ _ h => h.elim⟩
        refine ⟨_, rfl, rfl, _, rfl, ifF (by decide +kernel) ?_⟩
        refine ⟨_, rfl, rfl, _, rfl, ifF (by decide +kernel) ?_⟩
        refine ⟨_, rfl, rfl, _, rfl, ifF (by decide +kernel) ?_⟩
        refine ⟨_, rfl, rfl, _, rfl, ifT (by decide +kernel) ?_⟩
        refine ⟨_, rfl, by show 0 ≤ sizeLine; decide, fun le nle => ?_⟩
        have k2 := same_upd (o := .lst []) nle
        refine ⟨opD o, .list [], op_dp (k2 _ _ hL8), .lst (SqL.of upd_same) .nil, op_shape o, nil_shape, ?_⟩
        rw [op_eqv]
        refine ⟨_, rfl, ?_⟩
        by_cases ho : o = []
        · rw [if_pos ho] at hA5
          rw [← hA5] at q
          exact ifT (decide_eq_true ho) (q _ (s8.trans k2))
        · rw [if_neg ho] at hA5
          rw [← hA5] at q
          exact ifF (decide_eq_false ho) ⟨_, rfl, q _ (s8.trans k2)⟩
      | cons c r =>
        have hi2 : i < cs.length := by
          apply Classical.byContradiction
          intro z
          rw [List.drop_eq_nil_of_le (by omega)] at hcd
          cases hcd
        have hr' : cs.drop (i + 1) = r := by
          rw [← List.tail_drop, hcd]
          rfl
        rw [hcd, auto_cons] at hA
        have go : ∀ (w' : List Nat) (f' : Option (List Nat)) (e' : Bool) (o' : List Nat) (H' : Hp), Same H H' → H' L = some (.lst (opV o')) → w'.length ≤ 6 → (f'.getD []).length ≤ 6 → o'.length ≤ 30 → auto r w' f' e' o' (i + 1) = A0 →
            ∃ w f e o y5 y6, [some (.str (SX.S cs)), some (.str (SX.S w')), some (fV f'), some (.bl e'), some (.ref L), some (.int (i : Nat)), some (.str (SX.S [c]))] = [some (.str (SX.S cs)), some (.str (SX.S w)), some (fV f), some (.bl e), some (.ref L), y5, y6] ∧ Same H H' ∧ H' L = some (.lst (opV o)) ∧ w.length ≤ 6 ∧ (f.getD []).length ≤ 6 ∧ o.length ≤ 30 ∧ i + 1 ≤ cs.length ∧ auto (cs.drop (i + 1)) w f e o (i + 1) = A0 :=
          fun w' f' e' o' H' h1 h2 h3 h4 h5 h6 => ⟨w', f', e', o', _, _, rfl, h1, h2, h3, h4, h5, by omega, by rw [hr']; exact h6⟩
        have lw : (SX.S w).length ≤ sizeLine := by
          rw [SX.S_len]
          exact Nat.le_trans hw6 (by decide)
        -- a letter
        refine ⟨fun σ' H' => σ' = [some (.str (SX.S cs)), some (.str (SX.S w)), some (fV f), some (.bl e), some (.ref L), some (.int (i : Nat)), some (.str (SX.S [c]))] ∧ H' = H3 ∧ au2 c r w f e o i = A0, ?_, ?_⟩
        · refine ⟨_, rfl, rfl, _, rfl, ifT (by
            show (!decide (V.str (SX.S [c]) = V.str "")) = true
            rw [s_emp, s_dec]
            rfl) ?_⟩
          refine ⟨_, rfl, c, LETS, rfl, rfl, _, rfl, ?_⟩
          rw [lets_has]
          cases h1 : isLet c with
          | false =>
            rw [h1] at hA
            exact iteF ⟨rfl, rfl, hA⟩
          | true =>
            rw [h1] at hA
            refine iteT ⟨_, rfl, rfl, _, rfl, ?_⟩
            cases f with
            | some g => exact ifF (decide_eq_false (fun z => nomatch z)) ⟨rfl, rfl, hA⟩
            | none =>
              refine ifT (by decide +kernel) ⟨_, rfl, _, rfl, ?_⟩
              cases e with
              | true => exact iteF ⟨rfl, rfl, hA⟩
              | false =>
                refine iteT ⟨_, rfl, _, rfl, lw, _, _, rfl, rfl, _, rfl, ?_⟩
                by_cases h2 : w.length < 6
                · rw [if_pos (by simp [h2])] at hA
                  refine ifT (decide_eq_true (by rw [SX.S_len]; omega)) ?_
                  refine ⟨_, rfl, _, rfl, _, _, rfl, rfl, by rw [SX.S_len, SX.S_len]; exact Nat.le_trans (show _ ≤ 7 from by show w.length + 1 ≤ 7; omega) (by decide), ?_⟩
                  rw [SX.S_cat]
                  exact go (w ++ [c]) none false o H3 s3 hL3 (by rw [List.length_append]; show w.length + 1 ≤ 6; omega) hg6 ho30 hA
                · rw [if_neg (by simp [h2])] at hA
                  exact ifF (decide_eq_false (by rw [SX.S_len]; omega)) ⟨rfl, rfl, hA⟩
        rintro σ1 H4 ⟨rfl, rfl, hA⟩
        -- no name
        refine ⟨fun σ' H' => σ' = [some (.str (SX.S cs)), some (.str (SX.S w)), some (fV f), some (.bl e), some (.ref L), some (.int (i : Nat)), some (.str (SX.S [c]))] ∧ Same H4 H' ∧ au3 c r w f e o i = A0, ?_, ?_⟩
        · unfold au2 at hA
          refine ⟨_, rfl, by show 2 ≤ sizeLine; decide, fun tq ntq => ⟨tq, _, rfl, .inr (SqT.of upd_same), rfl, rfl, _, rfl, ?_⟩⟩
          have k1 := same_upd (o := .tup [.str "", .str "own"]) ntq
          show if inV (.str (SX.S w)) [.str "", .str "own"] = true then _ else _
          rw [in_words]
          cases hn : noName w with
          | false =>
            rw [hn, if_neg (by simp)] at hA
            exact iteF ⟨rfl, k1, hA⟩
          | true =>
            refine iteT ?_
            refine ⟨_, rfl, _, rfl, ?_⟩
            cases e with
            | true =>
              rw [if_neg (by rw [hn]; decide)] at hA
              exact iteF ⟨rfl, k1, hA⟩
            | false =>
              rw [if_pos (by rw [hn]; decide)] at hA
              rw [← hA] at q
              exact iteT ⟨_, rfl, q _ (s3.trans k1)⟩
        rintro σ2 H5 ⟨rfl, s45, hA⟩
        have s5 := s3.trans s45
        have hL5 := s45 _ _ hL3
        -- a colon
        refine ⟨fun σ' H' => σ' = [some (.str (SX.S cs)), some (.str (SX.S w)), some (fV f), some (.bl e), some (.ref L), some (.int (i : Nat)), some (.str (SX.S [c]))] ∧ H' = H5 ∧ au4 c r w f e o i = A0, ?_, ?_⟩
        · unfold au3 at hA
          refine ⟨_, rfl, rfl, _, rfl, ?_⟩
          show if decide (V.str (SX.S [c]) = V.str ":") = true then _ else _
          rw [s_col, s_dec]
          by_cases h1 : c = 58
          · refine ifT (decide_eq_true (by rw [h1])) ⟨_, rfl, rfl, _, rfl, ?_⟩
            cases f with
            | some g => exact ifF (decide_eq_false (fun z => nomatch z)) ⟨rfl, rfl, by rw [if_neg (by simp)] at hA; exact hA⟩
            | none =>
              refine ifT (by decide +kernel) ⟨_, rfl, _, rfl, ?_⟩
              cases e with
              | true => exact iteF ⟨rfl, rfl, by rw [if_neg (by simp)] at hA; exact hA⟩
              | false =>
                rw [if_pos (by simp [h1])] at hA
                refine iteT ?_
                exact go w (some []) false o H5 s5 hL5 hw6 (by decide) ho30 hA
          · exact ifF (decide_eq_false (by simpa using h1)) ⟨rfl, rfl, by rw [if_neg (by simp [h1])] at hA; exact hA⟩
        rintro σ3 H6 ⟨rfl, rfl, hA⟩
        -- a figure
        refine ⟨fun σ' H' => σ' = [some (.str (SX.S cs)), some (.str (SX.S w)), some (fV f), some (.bl e), some (.ref L), some (.int (i : Nat)), some (.str (SX.S [c]))] ∧ H' = H6 ∧ au5 c r f e o i = A0, ?_, ?_⟩
        · unfold au4 at hA
          refine ⟨_, rfl, rfl, _, rfl, ifT (by
            show (!decide (V.str (SX.S [c]) = V.str "")) = true
            rw [s_emp, s_dec]
            rfl) ?_⟩
          refine ⟨_, rfl, c, FIGS, rfl, rfl, _, rfl, ?_⟩
          rw [figs_has]
          cases h1 : isFig c with
          | false =>
            rw [h1] at hA
            exact iteF ⟨rfl, rfl, hA⟩
          | true =>
            rw [h1] at hA
            refine iteT ⟨_, rfl, rfl, _, rfl, ?_⟩
            cases f with
            | none => exact ifF (by decide +kernel) ⟨rfl, rfl, hA⟩
            | some g =>
              have hg6 : g.length ≤ 6 := hg6
              have lg : (SX.S g).length ≤ sizeLine := by
                rw [SX.S_len]
                exact Nat.le_trans hg6 (by decide)
              refine ifT (by rw [show decide (fV (some g) = V.non) = false from decide_eq_false (fun z => nomatch z)]; rfl) ⟨_, rfl, SX.S g, rfl, lg, _, _, rfl, rfl, _, rfl, ?_⟩
              by_cases h2 : g.length < 6
              · refine ifT (decide_eq_true (by rw [SX.S_len]; omega)) ?_
                have lgc : (SX.S g).length + (SX.S [c]).length ≤ sizeLine := by
                  rw [SX.S_len, SX.S_len]
                  exact Nat.le_trans (show _ ≤ 7 from by show g.length + 1 ≤ 7; omega) (by decide)
                refine ⟨_, rfl, _, rfl, SX.S g, SX.S [c], rfl, rfl, lgc, rfl, _, rfl, ?_⟩
                rw [SX.S_cat, s_nil, s_dec]
                by_cases h3 : g ++ [c] = [48]
                · exact ifF (by rw [decide_eq_true h3]; rfl) ⟨rfl, rfl, by rw [if_neg (by simp [h3])] at hA; exact hA⟩
                · rw [if_pos (by simp [h2, h3])] at hA
                  refine ifT (by rw [decide_eq_false h3]; rfl) ?_
                  refine ⟨_, rfl, _, rfl, SX.S g, SX.S [c], rfl, rfl, lgc, ?_⟩
                  rw [SX.S_cat]
                  exact go w (some (g ++ [c])) e o H6 s5 hL5 hw6 (by show (g ++ [c]).length ≤ 6; rw [List.length_append]; show g.length + 1 ≤ 6; omega) ho30 hA
              · exact ifF (decide_eq_false (by rw [SX.S_len]; omega)) ⟨rfl, rfl, by rw [if_neg (by simp [h2])] at hA; exact hA⟩
        rintro σ4 H7 ⟨rfl, rfl, hA⟩
        -- no figure behind the colon
        refine ⟨fun σ' H' => σ' = [some (.str (SX.S cs)), some (.str (SX.S w)), some (fV f), some (.bl e), some (.ref L), some (.int (i : Nat)), some (.str (SX.S [c]))] ∧ H' = H7 ∧ au6 c r e o i = A0, ?_, ?_⟩
        · unfold au5 at hA
          cases f with
          | none =>
            rw [if_neg (fun z => nomatch z)] at hA
            exact ⟨_, rfl, rfl, _, rfl, ifF (by decide +kernel) ⟨rfl, rfl, hA⟩⟩
          | some g =>
            refine ⟨_, rfl, rfl, _, rfl, ?_⟩
            show if decide (V.str (SX.S g) = V.str "") = true then _ else _
            rw [s_emp, s_dec]
            by_cases hg : g = []
            · refine ifT (decide_eq_true hg) ?_
              rw [if_pos (by rw [hg])] at hA
              rw [← hA] at q
              exact ⟨_, rfl, q _ s5⟩
            · rw [if_neg (fun z => hg (Option.some.inj z))] at hA
              exact ifF (decide_eq_false hg) ⟨rfl, rfl, hA⟩
        rintro σ5 H8 ⟨rfl, rfl, hA⟩
        unfold au6 at hA
        -- brackets and commas
        refine ⟨fun σ' H' => σ' = [some (.str (SX.S cs)), some (.str (SX.S w)), some (fV f), some (.bl e), some (.ref L), some (.int (i : Nat)), some (.str (SX.S [c]))] ∧ Same H H' ∧ ∃ o', H' L = some (.lst (opV o')) ∧ o'.length ≤ 30 ∧ auto r (if c = 41 then [120] else []) none (decide (c = 41)) o' (i + 1) = A0, ?_, ?_⟩
        · refine ⟨_, rfl, rfl, _, rfl, ?_⟩
          show if decide (V.str (SX.S [c]) = V.str "(") = true then _ else _
          rw [s_open, s_dec]
          have sgn : ∀ d : Nat, c ≠ d → decide (V.str (SX.S [c]) = V.str (SX.S [d])) = false := fun d hd => by
            rw [s_dec]
            exact decide_eq_false (by simpa using hd)
          have no0 : decide (V.str (SX.S [c]) = V.str "") = false := by
            rw [s_emp, s_dec]
            rfl
          have noC : c ≠ 44 → decide (V.str (SX.S [c]) = V.str ",") = false := fun h => by
            rw [s_com]
            exact sgn 44 h
          have noS : c ≠ 41 → decide (V.str (SX.S [c]) = V.str ")") = false := fun h => by
            rw [s_shut]
            exact sgn 41 h
          have mid : c ≠ 41 → ∀ HX o', Same H HX → HX L = some (.lst (opV o')) → o'.length ≤ 30 → auto r [] none false o' (i + 1) = A0 → [some (.str (SX.S cs)), some (.str (SX.S w)), some (fV f), some (.bl e), some (.ref L), some (.int (i : Nat)), some (.str (SX.S [c]))] = [some (.str (SX.S cs)), some (.str (SX.S w)), some (fV f), some (.bl e), some (.ref L), some (.int (i : Nat)), some (.str (SX.S [c]))] ∧ Same H HX ∧ ∃ o', HX L = some (.lst (opV o')) ∧ o'.length ≤ 30 ∧ auto r (if c = 41 then [120] else []) none (decide (c = 41)) o' (i + 1) = A0 :=
            fun h HX o' h1 h2 h3 h4 => ⟨rfl, h1, o', h2, h3, by rw [if_neg h, decide_eq_false h]; exact h4⟩
          by_cases h1 : c = 40
          · refine ifT (decide_eq_true (by rw [h1])) ?_
            have n44 : c ≠ 44 := by omega
            have n41 : c ≠ 41 := by omega
            refine ⟨_, rfl, _, rfl, ?_⟩
            cases e with
            | true =>
              rw [if_neg (by simp), if_neg (by simp [n44]), if_neg (by simp [n41])] at hA
              rw [← hA] at q
              refine iteF ?_
              exact ⟨_, rfl, rfl, _, rfl, ifF (noC n44) ⟨_, rfl, rfl, _, rfl, ifF (noS n41) ⟨_, rfl, rfl, _, rfl, ifF no0 ⟨_, rfl, q _ s5⟩⟩⟩⟩
            | false =>
              refine iteT ⟨_, rfl, L, _, rfl, .inl (SqL.of hL5), _, _, rfl, rfl, _, rfl, ?_⟩
              rw [opV_len]
              by_cases h2 : o.length < 30
              · rw [if_pos (by simp [h1, h2])] at hA
                refine ifT (decide_eq_true (by omega)) ?_
                refine ⟨_, rfl, .inl ⟨rfl, _, SqL.of hL5⟩, L, _, .int 1, rfl, rfl, hL5, by rw [opV_len]; exact small1000 (by omega), ?_⟩
                exact mid n41 _ (1 :: o) (Same.at_ s5 nL) (by rw [upd_same, opV_cons]; rfl) (by rw [List.length_cons]; omega) hA
              · rw [if_neg (by simp [h2]), if_neg (by simp [n44]), if_neg (by simp [n41])] at hA
                rw [← hA] at q
                refine ifF (decide_eq_false (by omega)) ?_
                exact ⟨_, rfl, rfl, _, rfl, ifF (noC n44) ⟨_, rfl, rfl, _, rfl, ifF (noS n41) ⟨_, rfl, rfl, _, rfl, ifF no0 ⟨_, rfl, q _ s5⟩⟩⟩⟩
          · refine ifF (decide_eq_false (by simpa using h1)) ?_
            rw [if_neg (by simp [h1])] at hA
            refine ⟨_, rfl, rfl, _, rfl, ?_⟩
            by_cases h2 : c = 44
            · have n41 : c ≠ 41 := by omega
              refine ifT (by
                show decide (V.str (SX.S [c]) = V.str ",") = true
                rw [s_com, s_dec, h2]
                rfl) ?_
              refine ⟨_, rfl, by show 0 ≤ sizeLine; decide, fun le nle => ?_⟩
              have k2 := same_upd (o := .lst []) nle
              have hL6 := k2 _ _ hL5
              refine ⟨opD o, .list [], op_dp hL6, .lst (SqL.of upd_same) .nil, op_shape o, nil_shape, ?_⟩
              rw [op_eqv]
              refine ⟨_, rfl, ?_⟩
              cases o with
              | nil =>
                rw [if_neg (by simp), if_neg (by simp)] at hA
                rw [← hA] at q
                refine iteF ?_
                exact ⟨_, rfl, rfl, _, rfl, ifF (noS n41) ⟨_, rfl, rfl, _, rfl, ifF no0 ⟨_, rfl, q _ (s5.trans k2)⟩⟩⟩
              | cons k o =>
                refine ifT (by rw [decide_eq_false (by simp)]; rfl) ?_
                have hlast : atI (opV (k :: o)) (-1) = some (.int (k : Nat)) := at_last (i := o.length) (by rw [opV_len]; rfl) (by
                  rw [opV_cons, List.getElem?_append_right (by rw [opV_len]; exact Nat.le_refl _), opV_len, Nat.sub_self]
                  rfl)
                refine ⟨_, rfl, _, rfl, L, _, _, .int (k : Nat), rfl, rfl, SqL.of hL6, hlast, rfl, _, rfl, ?_⟩
                by_cases h3 : k = 1
                · subst h3
                  rw [if_pos (by simp [h2])] at hA
                  refine ifT (by decide +kernel) ?_
                  refine ⟨_, rfl, _, rfl, L, _, _, o.length, rfl, rfl, hL6, ?_, ?_⟩
                  · unfold ixN
                    rw [if_neg (by decide), if_pos (by rw [opV_len, List.length_cons]; omega), opV_len, List.length_cons]
                    congr 1
                    omega
                  · refine mid n41 _ (2 :: o) (Same.at_ (s5.trans k2) nL) ?_ ho30 hA
                    rw [upd_same, opV_cons, opV_cons, List.set_append_right _ _ (by rw [opV_len]; exact Nat.le_refl _), opV_len, Nat.sub_self]
                    rfl
                · rw [if_neg (by simp [h3]), if_neg (by simp [n41])] at hA
                  rw [← hA] at q
                  refine ifF (decide_eq_false (fun z => h3 (by have := V.int.inj z; omega))) ?_
                  exact ⟨_, rfl, rfl, _, rfl, ifF (noS n41) ⟨_, rfl, rfl, _, rfl, ifF no0 ⟨_, rfl, q _ (s5.trans k2)⟩⟩⟩
            · refine ifF (noC h2) ?_
              rw [if_neg (by simp [h2])] at hA
              refine ⟨_, rfl, rfl, _, rfl, ?_⟩
              by_cases h3 : c = 41
              · refine ifT (by
                  show decide (V.str (SX.S [c]) = V.str ")") = true
                  rw [s_shut, s_dec, h3]
                  rfl) ?_
                refine ⟨_, rfl, by show 0 ≤ sizeLine; decide, fun le nle => ?_⟩
                have k2 := same_upd (o := .lst []) nle
                have hL6 := k2 _ _ hL5
                refine ⟨opD o, .list [], op_dp hL6, .lst (SqL.of upd_same) .nil, op_shape o, nil_shape, ?_⟩
                rw [op_eqv]
                refine ⟨_, rfl, ?_⟩
                cases o with
                | nil =>
                  rw [if_neg (by simp)] at hA
                  rw [← hA] at q
                  refine iteF ?_
                  exact ⟨_, rfl, rfl, _, rfl, ifF no0 ⟨_, rfl, q _ (s5.trans k2)⟩⟩
                | cons k o =>
                  rw [if_pos (by simp [h3])] at hA
                  refine ifT (by rw [decide_eq_false (by simp)]; rfl) ?_
                  refine ⟨_, rfl, .inl ⟨rfl, _, SqL.of hL6⟩, L, _, .int (k : Nat), rfl, rfl, hL6, ?_, ?_⟩
                  · rw [opV_cons, List.length_append, List.getElem?_append_right (by rw [opV_len]; show o.length ≤ o.length + 1 - 1; omega), opV_len]
                    show [V.int (k : Nat)][o.length + 1 - 1 - o.length]? = _
                    rw [show o.length + 1 - 1 - o.length = 0 by omega]
                    rfl
                  · rw [opV_cons, List.dropLast_concat]
                    exact ⟨rfl, Same.at_ (s5.trans k2) nL, o, upd_same, by rw [List.length_cons] at ho30; omega, by rw [if_pos h3, decide_eq_true h3]; exact hA⟩
              · rw [if_neg (by simp [h3])] at hA
                rw [← hA] at q
                refine ifF (noS h3) ?_
                exact ⟨_, rfl, rfl, _, rfl, ifF no0 ⟨_, rfl, q _ s5⟩⟩
        rintro σ6 H9 ⟨rfl, s9, o', hL9, ho9, hA⟩
        refine ⟨by show 2 ≤ sizeLine; decide, fun l2 n2 => ?_⟩
        have k3 := same_upd (o := .lst [.str "", .str "x"]) n2
        refine ⟨_, rfl, rfl, .inr ⟨_, rfl, ?_⟩⟩
        by_cases h3 : c = 41
        · have e1 : decide (V.str (SX.S [c]) = V.str ")") = true := by
            rw [s_shut, s_dec, h3]
            rfl
          rw [if_pos h3, decide_eq_true h3] at hA
          refine ⟨l2, _, 1, .str "x", rfl, congrArg V.int (if_pos e1), SqL.of upd_same, atI_nat (j := 1) rfl, _, rfl, rfl, _, _, _, rfl, ?_⟩
          rw [e1, s_x]
          exact go [120] none true o' _ (s9.trans k3) (k3 _ _ hL9) (by decide) (by decide) ho9 hA
        · have e1 : decide (V.str (SX.S [c]) = V.str ")") = false := by
            rw [s_shut, s_dec]
            exact decide_eq_false (by simpa using h3)
          rw [if_neg h3, decide_eq_false h3] at hA
          refine ⟨l2, _, 0, .str "", rfl, congrArg V.int (if_neg (by rw [e1]; decide)), SqL.of upd_same, atI_nat (j := 0) rfl, _, rfl, rfl, _, _, _, rfl, ?_⟩
          rw [e1, s_emp]
          exact go [] none false o' _ (s9.trans k3) (k3 _ _ hL9) (by decide) (by decide) ho9 hA
    · rintro σ H3 ⟨w, f, e, o, y5, y6, rfl, s3, hL3, hw6, hg6, ho30, hic, hA⟩
      omega
end
/-! ### trees spelled -/
abbrev s__law_spelled : Stmt := top 32
abbrev N__law_spelled : List Str := ["_law_tree", "_law_found", "_law_part"]
abbrev P__law_spelled : List Str := ["_law_tree"]
theorem sc__law_spelled : FnScope N__law_spelled P__law_spelled (defScope s__law_spelled) := ⟨rfl, rfl, rfl, by decide +kernel, rfl, by decide +kernel, by decide +kernel⟩
section
variable {X : Cx}
/-- a text so many times -/
def rRepS : R2 := fun x y H Q => ∃ (a : List Nat) (n : Nat), x = .str (SX.S a) ∧ y = .int (n : Nat) ∧ a.length * n ≤ 100000 ∧ n ≤ 100000 ∧ Q (.str (SX.S (List.replicate n a).flatten)) H
theorem rep_cps (a : List Nat) : ∀ (n : Nat) (acc : List Nat), (List.replicate n (SX.S a).cps).foldl (· ++ ·) acc.toArray = (acc ++ (List.replicate n a).flatten).toArray
  | 0, acc => by simp
  | n + 1, acc => by
    rw [List.replicate_succ, List.foldl_cons, List.replicate_succ, List.flatten_cons]
    have e : (acc.toArray ++ (SX.S a).cps) = (acc ++ a).toArray := by simp
    rw [e, rep_cps a n (acc ++ a), List.append_assoc]
theorem rep_len (a : List Nat) (n : Nat) : ((List.replicate n a).flatten).length = a.length * n := by
  rw [List.length_flatten]
  simp [Nat.mul_comm]
theorem op_repS : OpR X (binaryOp .Mult) rRepS := by
  intro pins s σ H x y v u Q I rx ry h
  obtain ⟨a, n, rfl, rfl, hz, hn, q⟩ := h
  obtain ⟨t1, rfl⟩ := rx
  obtain ⟨t2, rfl⟩ := ry
  have hl : (SX.S a).length = a.length := SX.S_len a
  have hs : a.length * n ≤ sizeLine := Nat.le_trans hz (by decide)
  refine PySem.P.mul_str ?_ (fun h1 h2 => ?_) (fun h1 h2 => ?_) ?_
  · rw [decide_eq_false (by omega), decide_eq_false (by omega)]
    rfl
  · rw [hl]
    have hp : 0 < n := by omega
    have ha : a.length ≤ 100000 := Nat.le_trans (Nat.le_mul_of_pos_right _ hp) hz
    have : (2 ^ 63 - 1 : Int) / (n : Nat) ≥ 9223372036854 := by
      rw [ge_iff_le, Int.le_ediv_iff_mul_le (by omega)]
      omega
    omega
  · rw [hl, Int.toNat_natCast]
    unfold PySem.Builtin.Str.tooLong
    exact decide_eq_false (by omega)
  · by_cases h0 : n = 0
    · subst h0
      rw [if_pos (by decide)]
      exact ⟨by decide, .str _, H, I.tok _, ⟨_, rfl⟩, q⟩
    · rw [if_neg (by omega)]
      by_cases h1 : (((n : Nat) : Int) == 1 || (SX.S a).length == 0) = true
      · rw [if_pos h1]
        have e : (List.replicate n a).flatten = a := by
          rw [Bool.or_eq_true] at h1
          rcases h1 with h1 | h1
          · have : n = 1 := by
              have := eq_of_beq h1
              omega
            rw [this]
            simp
          · have e0 : a = [] := by
              have := eq_of_beq h1
              rw [hl] at this
              exact List.eq_nil_of_length_eq_zero this
            rw [e0]
            simp
        rw [e] at q
        exact ⟨.str _, H, I, ⟨_, rfl⟩, q⟩
      · rw [if_neg h1]
        have e : (⟨(List.replicate ((n : Nat) : Int).toNat (SX.S a).cps).foldl (· ++ ·) #[]⟩ : Str) = SX.S (List.replicate n a).flatten := by
          rw [Int.toNat_natCast]
          have := rep_cps a n []
          rw [List.nil_append] at this
          exact congrArg Str.mk this
        rw [e]
        exact ⟨by rw [SX.S_len, rep_len]; exact hs, .str _, H, I.tok _, ⟨_, rfl⟩, q⟩
end
def figL (n : Nat) : List Nat := if n = 0 then [] else 58 :: TL.numL n
def parL (ls : List (List Nat)) : List Nat := if ls = [] then [] else 40 :: (TL.joinL [44] ls ++ [41])
mutual
/-- a tree so deep, and its text -/
inductive Spl : Nat → PyData → List Nat → Prop where
  | mk {m n : Nat} {w : List Nat} {ds : List PyData} {ls : List (List Nat)} (hw : ∀ c ∈ w, c < 128) (hn : n < 1000000) (hl : ds.length ≤ 2) (h : SplAll m ds ls) : Spl (m + 1) (mkT w n ds) (w ++ figL n ++ parL ls)
inductive SplAll : Nat → List PyData → List (List Nat) → Prop where
  | nil (m : Nat) : SplAll m [] []
  | cons {m : Nat} {d : PyData} {ds : List PyData} {l : List Nat} {ls : List (List Nat)} (h : Spl m d l) (a : SplAll m ds ls) : SplAll m (d :: ds) (l :: ls)
end
theorem SplAll.len : ∀ {m : Nat} {ds : List PyData} {ls : List (List Nat)}, SplAll m ds ls → ds.length = ls.length
  | _, _, _, .nil _ => rfl
  | _, _, _, .cons _ a => by rw [List.length_cons, List.length_cons, SplAll.len a]
theorem SplAll.at_ : ∀ {m : Nat} {ds : List PyData} {ls : List (List Nat)}, SplAll m ds ls → ∀ {i : Nat} {d : PyData}, ds[i]? = some d → ∃ l, ls[i]? = some l ∧ Spl m d l
  | _, _, _, .cons h _, 0, _, e => ⟨_, rfl, by rw [← Option.some.inj e]; exact h⟩
  | _, _, _, .cons _ a, i + 1, _, e => SplAll.at_ a (i := i) e
mutual
theorem Spl.lay : ∀ {m : Nat} {d : PyData} {l : List Nat}, Spl m d l → d.canLay0 = true ∧ d.depth ≤ 2 * m
  | _, _, _, .mk hw hn hl h => by
    rename_i m n w ds ls
    obtain ⟨g1, g2⟩ := SplAll.lay h
    refine ⟨?_, ?_⟩
    · show (PyData.strOk (SX.S w) && (true && (PyData.canLayAll0 ds && true))) = true
      have e : PyData.strOk (SX.S w) = true := by
        unfold PyData.strOk
        rw [Array.all_eq_true']
        intro c hc
        have : c ∈ w := by simpa using hc
        have := hw c this
        exact decide_eq_true (by omega)
      rw [e, g1]
      rfl
    · show max 0 (max 0 (max (PyData.depthAll ds + 1) 0)) + 1 ≤ 2 * (m + 1)
      omega
theorem SplAll.lay : ∀ {m : Nat} {ds : List PyData} {ls : List (List Nat)}, SplAll m ds ls → PyData.canLayAll0 ds = true ∧ PyData.depthAll ds ≤ 2 * m
  | _, _, _, .nil _ => ⟨rfl, Nat.zero_le _⟩
  | _, _, _, .cons h a => by
    rename_i m d ds l ls
    obtain ⟨f1, f2⟩ := Spl.lay h
    obtain ⟨g1, g2⟩ := SplAll.lay a
    refine ⟨?_, ?_⟩
    · show (PyData.canLay0 d && PyData.canLayAll0 ds) = true
      rw [f1, g1]
      rfl
    · show max (PyData.depth d) (PyData.depthAll ds) ≤ 2 * m
      omega
end
theorem SplAll.shape {m : Nat} {ds : List PyData} {ls : List (List Nat)} (h : SplAll m ds ls) (hm : m ≤ 31) : SeqAt.shaped (.tuple ds) = true := by
  obtain ⟨g1, g2⟩ := h.lay
  unfold SeqAt.shaped
  rw [show PyData.canLay0 (.tuple ds) = true from g1, decide_eq_true (show PyData.depth (.tuple ds) ≤ 64 from by
    show PyData.depthAll ds + 1 ≤ 64
    omega)]
  rfl
theorem tup_eqv (ds : List PyData) : PyData.eqv (.tuple ds) (.tuple []) = decide (ds = []) := by
  cases ds <;> rfl
theorem tup_shape : SeqAt.shaped (.tuple []) = true := by decide +kernel
theorem join_len : ∀ ls : List (List Nat), (TL.joinL [44] ls).length ≤ (ls.map (·.length)).sum + ls.length
  | [] => Nat.le_refl _
  | [p] => by
    show p.length ≤ p.length + 0 + 1
    omega
  | p :: q :: r => by
    have ih := join_len (q :: r)
    show (p ++ ([44] ++ TL.joinL [44] (q :: r))).length ≤ p.length + ((q :: r).map (·.length)).sum + ((q :: r).length + 1)
    rw [List.length_append, List.length_append]
    show p.length + (1 + _) ≤ _
    omega
theorem le_join : ∀ ls : List (List Nat), (ls.map (·.length)).sum ≤ (TL.joinL [44] ls).length
  | [] => Nat.le_refl _
  | [p] => by
    show p.length + 0 ≤ p.length
    omega
  | p :: q :: r => by
    have ih := le_join (q :: r)
    show p.length + ((q :: r).map (·.length)).sum ≤ (p ++ ([44] ++ TL.joinL [44] (q :: r))).length
    rw [List.length_append, List.length_append]
    show _ ≤ p.length + (1 + _)
    omega
def spSpelled (K : PySem.W.Frag) (m : Nat) : Sp := fun vs H Q _ => ∃ (v : V) (t : PyData) (l : List Nat), vs = [v] ∧ Dp K H v t ∧ Spl m t l ∧ l.length ≤ 20000 ∧ ∀ H', Same H H' → Q (.str (SX.S l)) H'
theorem mem_sum {ls : List (List Nat)} {l : List Nat} (h : l ∈ ls) : l.length ≤ (ls.map (·.length)).sum := by
  induction ls with
  | nil => cases h
  | cons a r ih =>
    rw [List.map_cons, List.sum_cons]
    rcases List.mem_cons.mp h with rfl | h
    · omega
    · have := ih h
      omega
theorem num_len {n : Nat} (h : n < 1000000) : (TL.numL n).length ≤ 6 := TL.numL_len (by decide) (by omega)
theorem num_log {n : Nat} (h : n < 1000000) : (((n : Nat) : Int)).natAbs.log2 < 1920 := by
  rw [Int.natAbs_natCast]
  by_cases z : n = 0
  · rw [z]
    decide
  · have : n.log2 < 20 := (Nat.log2_lt z).mpr (by
      have : (2 : Nat) ^ 20 = 1048576 := by decide
      omega)
    omega
theorem rep_if {a : List Nat} {b : Bool} {n : Nat} (h : n = if b then 1 else 0) : (List.replicate n a).flatten = if b then a else [] := by
  subst h
  cases b <;> simp
section
variable {P : Program} {w : World} {K : PySem.W.Frag} {mg : Str → Option Value} {base : Heap}
theorem ok_spelled (T : Tx mg) (D : Dd K mg "_law_spelled" s__law_spelled P__law_spelled) : ∀ m, m ≤ 31 → C8.Cal P w K mg base (m + 1) "_law_spelled" (spSpelled K m) [] := by
  intro m
  induction m with
  | zero =>
    intro _
    refine D.cal sc__law_spelled (fun vs H Q E h => ?_) (fun f cdv A outer s H vs Q E hr h => ?_)
    · obtain ⟨v, t, l, rfl, _⟩ := h
      rfl
    · obtain ⟨v, t, l, rfl, hv, hs, _⟩ := h
      cases hs
  | succ m ih =>
    intro hm
    have c_law_spelled := ih (by omega)
    refine D.cal sc__law_spelled (fun vs H Q E h => ?_) (fun f cdv A outer s H vs Q E hr h => ?_)
    · obtain ⟨v, t, l, rfl, _⟩ := h
      rfl
    · obtain ⟨v, t, l, rfl, hv, hs, hl, q⟩ := h
      refine ⟨_, (pss_cons (ps_set (i := 1) sc__law_spelled.nd rfl (Or.inl rfl) (pe_op op_add_str (pe_ix ix_tup (pv 0) pe_int (fun _ _ => rfl)) (pe_op op_repS (pe_op op_add_str pe_str (pe_callTy call_str_int (by rfl) T.str (by decide +kernel) (pa_cons (pe_ix ix_tup (pv 0) pe_int (fun _ _ => rfl)) pa_nil))) (pe_callTy call_int1 (by rfl) T.int (by decide +kernel) (pa_cons (pe_cmpR op_gt (pe_ix ix_tup (pv 0) pe_int (fun _ _ => rfl)) pe_int (nomark _)) pa_nil)))))
          (pss_one (ps_ret (pe_op op_add_str (pv 1) (pe_op op_repS (pe_op op_add_str (pe_op op_add_str pe_str (pe_bm PySem.F.plainAttrs_str PySem.F.slot_str_join PySem.F.type_str_join mt_join pe_str (pa_cons (pe_lc (own := [("_law_part", 2)]) (by exact rfl) sc__law_spelled.nd (pi_tup (pe_ix ix_tup (pv 0) pe_int (fun _ _ => rfl))) (blkOk_by (own := [("_law_part", 2)]) (N := N__law_spelled) (sc := defScope s__law_spelled) (by decide +kernel)) (fun _ _ _ _ _ => (pg_name (i := 2) sc__law_spelled.nd rfl (Or.inl rfl))) (fun _ _ _ _ _ => pts_nil) (fun _ _ _ _ _ => (C8.pe_c c_law_spelled hr (by omega) (by rfl) (pa_cons (pv 2) pa_nil)))) pa_nil))) pe_str) (pe_callTy call_int1 (by rfl) T.int (by decide +kernel) (pa_cons (pe_cmpR (op_neD hr.units) (pe_ix ix_tup (pv 0) pe_int (fun _ _ => rfl)) (pe_tup pa_nil) (nomark _)) pa_nil))))))), ?_⟩
      cases hs with
      | mk hw hn hl2 hall =>
        rename_i n wd ds ls
        cases hv with
        | tup hS hA =>
          rename_i a xs
          cases hA with
          | cons a1 hA =>
            cases hA with
            | cons a2 hA =>
              cases hA with
              | cons a3 hA =>
                cases hA
                cases a1
                cases a2
                cases a3 with
                | tup hS3 hA3 =>
                  rename_i p ps
                  rw [List.length_append, List.length_append] at hl
                  have lfig := num_len hn
                  refine ⟨_, rfl, a, _, 0, .str (SX.S wd), rfl, rfl, hS, atI_nat (j := 0) rfl, ?_⟩
                  refine ⟨_, rfl, a, _, 1, .int (n : Nat), rfl, rfl, hS, atI_nat (j := 1) rfl, (n : Int), rfl, num_log hn, ?_⟩
                  have es : (((":" : String) : Str) ++ (Str.ofString (toString ((n : Nat) : Int)))) = SX.S (58 :: TL.numL n) := by
                    rw [s_col, SX.num_S, SX.S_cat]
                    rfl
                  refine ⟨_, _, rfl, rfl, ?_, ?_⟩
                  · show (Str.ofString ":").length + (Str.ofString (toString ((n : Nat) : Int))).length ≤ sizeLine
                    rw [s_col, SX.num_S, SX.S_len, SX.S_len]
                    exact Nat.le_trans (show _ ≤ 7 from by show 1 + (TL.numL n).length ≤ 7; omega) (by decide)
                  rw [es]
                  refine ⟨_, rfl, a, _, 1, .int (n : Nat), rfl, rfl, hS, atI_nat (j := 1) rfl, _, _, rfl, rfl, .inr ⟨_, rfl, ?_⟩⟩
                  refine ⟨58 :: TL.numL n, if decide ((0 : Int) < (n : Nat)) then 1 else 0, rfl, ?_, ?_, by split <;> decide, ?_⟩
                  · cases decide ((0 : Int) < (n : Nat)) <;> rfl
                  · rw [List.length_cons]
                    cases decide ((0 : Int) < (n : Nat)) with
                    | true =>
                      show ((TL.numL n).length + 1) * 1 ≤ 100000
                      omega
                    | false => exact Nat.zero_le _
                  rw [rep_if rfl]
                  have ef : (if decide ((0 : Int) < (n : Nat)) = true then 58 :: TL.numL n else []) = figL n := by
                    unfold figL
                    by_cases z : n = 0
                    · rw [if_pos z, if_neg (by simp [z])]
                    · rw [if_neg z, if_pos (decide_eq_true (by omega))]
                  rw [ef]
                  refine ⟨_, _, rfl, rfl, by rw [SX.S_len, SX.S_len]; exact Nat.le_trans (show _ ≤ 20000 from by omega) (by decide), ?_⟩
                  rw [SX.S_cat]
                  -- the parts
                  have lps := dpAll_len hA3
                  have lls := hall.len
                  refine ⟨_, rfl, rfl, _, rfl, a, _, 2, .ref p, rfl, rfl, hS, atI_nat (j := 2) rfl, p, rfl, ⟨_, hS3⟩, fun D nD => ?_⟩
                  refine lc_tup (K := K) (a := p) (xs := ps) (fun j H' => Same H H' ∧ H' D = some (.lst (((ls.take j).map SX.S).map V.str))) ⟨same_upd nD, upd_same⟩ (fun j H' _ h => Same.seqT h.1 hS3) ?_ ?_
                  · rintro j x H' hx ⟨sm, hD⟩
                    obtain ⟨d, hd, hxd⟩ := dpAll_at hA3 hx
                    obtain ⟨l, hl1, hsp⟩ := hall.at_ hd
                    have hj : j < ps.length := (List.getElem?_eq_some_iff.mp hx).1
                    refine ⟨rfl, yesT ?_⟩
                    refine ⟨_, rfl, x, d, l, rfl, dp_same sm hxd, hsp, ?_, fun H5 s5 => ?_⟩
                    · have h1 := mem_sum (List.mem_of_getElem? hl1)
                      have h2 := le_join ls
                      have h3 : parL ls = 40 :: (TL.joinL [44] ls ++ [41]) := if_neg (fun z => by rw [z] at hl1; cases hl1)
                      rw [h3, List.length_cons, List.length_append] at hl
                      omega
                    · refine ⟨_, s5 _ _ hD, by rw [List.length_map, List.length_map, List.length_take]; exact small1000 (by omega), Same.at_ (sm.trans s5) nD, ?_⟩
                      rw [upd_same, List.take_add_one, hl1, List.map_append, List.map_append]
                      rfl
                  rintro H5 ⟨s5, hD⟩
                  rw [lps, lls, List.take_length] at hD
                  have ljoin : (TL.joinL [44] ls).length ≤ 20000 := by
                    by_cases z : ls = []
                    · rw [z]
                      exact Nat.zero_le _
                    · have h3 : parL ls = 40 :: (TL.joinL [44] ls ++ [41]) := if_neg z
                      rw [h3, List.length_cons, List.length_append] at hl
                      omega
                  refine ⟨_, D, ls.map SX.S, rfl, rfl, .inl (SqL.of hD), ?_, ?_⟩
                  · rw [SX.lens]
                    have := le_join ls
                    rw [List.length_map]
                    show (ls.map (·.length)).sum + ls.length * 1 ≤ 16777216
                    omega
                  rw [s_com, SX.join_S, s_open]
                  refine ⟨_, _, rfl, rfl, by rw [SX.S_len, SX.S_len]; exact Nat.le_trans (show _ ≤ 20001 from by show 1 + _ ≤ _; omega) (by decide), ?_⟩
                  rw [SX.S_cat, s_shut]
                  refine ⟨_, _, rfl, rfl, by rw [SX.S_len, SX.S_len]; exact Nat.le_trans (show _ ≤ 20002 from by rw [List.length_append]; show 1 + _ + 1 ≤ _; omega) (by decide), ?_⟩
                  rw [SX.S_cat]
                  refine ⟨_, rfl, a, _, 2, .ref p, rfl, rfl, Same.seqT s5 hS, atI_nat (j := 2) rfl, by show 0 ≤ sizeLine; decide, fun t0 nt0 => ?_⟩
                  have k1 := same_upd (o := .tup []) nt0
                  refine ⟨.tuple ds, .tuple [], .tup (Same.seqT (s5.trans k1) hS3) (dpAll_same (s5.trans k1) hA3), .tup (SqT.of upd_same) .nil, hall.shape (by omega), tup_shape, .inr ⟨_, rfl, ?_⟩⟩
                  rw [tup_eqv]
                  refine ⟨[40] ++ TL.joinL [44] ls ++ [41], if (!decide (ds = [])) then 1 else 0, rfl, ?_, ?_, by split <;> decide, ?_⟩
                  · cases decide (ds = []) <;> rfl
                  · rw [List.length_append, List.length_append]
                    cases decide (ds = []) with
                    | false =>
                      show (1 + _ + 1) * 1 ≤ 100000
                      omega
                    | true => exact Nat.zero_le _
                  rw [rep_if rfl]
                  have ep : (if (!decide (ds = [])) = true then [40] ++ TL.joinL [44] ls ++ [41] else []) = parL ls := by
                    unfold parL
                    by_cases z : ls = []
                    · have z2 : ds = [] := List.eq_nil_of_length_eq_zero (by rw [lls, z]; rfl)
                      rw [if_pos z, if_neg (by simp [z2])]
                    · have z2 : ds ≠ [] := fun y => z (List.eq_nil_of_length_eq_zero (by rw [← lls, y]; rfl))
                      rw [if_neg z, if_pos (by simp [z2])]
                      rfl
                  rw [ep]
                  refine ⟨_, _, rfl, rfl, by rw [SX.S_len, SX.S_len]; exact Nat.le_trans (show _ ≤ 20000 from by rw [List.length_append]; omega) (by decide), ?_⟩
                  rw [SX.S_cat]
                  exact q _ (s5.trans k1)
end
/-! ### what is read is what stands there -/
theorem fig_back {c : Nat} (h : isFig c = true) : (Char.ofNat c).toNat = c := by
  unfold isFig at h
  simp only [Bool.and_eq_true, decide_eq_true_eq] at h
  have hc : c = 48 ∨ c = 49 ∨ c = 50 ∨ c = 51 ∨ c = 52 ∨ c = 53 ∨ c = 54 ∨ c = 55 ∨ c = 56 ∨ c = 57 := by omega
  rcases hc with rfl | rfl | rfl | rfl | rfl | rfl | rfl | rfl | rfl | rfl <;> rfl
theorem let_small {c : Nat} (h : isLet c = true) : c < 128 := by
  unfold isLet at h
  simp only [Bool.and_eq_true, decide_eq_true_eq] at h
  omega
theorem figs_read {ds : List Nat} (hd : ∀ c ∈ ds, isFig c = true) (h0 : ds ≠ []) (h48 : ds.head? ≠ some 48) (h6 : ds.length ≤ 6) : figL (NumText.digitsVal ds) = 58 :: ds ∧ NumText.digitsVal ds < 1000000 := by
  cases ds with
  | nil => exact absurd rfl h0
  | cons c r =>
    have hc := hd c (List.mem_cons_self ..)
    have c49 : 49 ≤ c := by
      unfold isFig at hc
      simp only [Bool.and_eq_true, decide_eq_true_eq] at hc
      have : c ≠ 48 := fun z => h48 (by rw [z]; rfl)
      omega
    have ad : NumText.AllDigits (c :: r) := fun d hdd => by
      have := hd d hdd
      unfold isFig at this
      simp only [Bool.and_eq_true, decide_eq_true_eq] at this
      exact this
    have e := NumText.toDigits_digitsVal r.length (c :: r) rfl ad (.inr ⟨c, r, rfl, c49⟩)
    have e2 : TL.numL (NumText.digitsVal (c :: r)) = c :: r := by
      unfold TL.numL
      rw [e, List.map_map]
      have : ∀ l : List Nat, (∀ d ∈ l, isFig d = true) → l.map (Char.toNat ∘ Char.ofNat) = l := fun l hl => by
        induction l with
        | nil => rfl
        | cons d l ih =>
          rw [List.map_cons, ih fun x hx => hl x (List.mem_cons_of_mem _ hx)]
          show (Char.ofNat d).toNat :: l = _
          rw [fig_back (hl d (List.mem_cons_self ..))]
      exact this _ hd
    have pos := NumText.digitsVal_pos (cs := r) c49
    refine ⟨?_, ?_⟩
    · unfold figL
      rw [if_neg (by omega), e2]
    · have hl : (Nat.toDigits 10 (NumText.digitsVal (c :: r))).length ≤ 6 := by
        rw [e, List.length_map]
        exact h6
      rw [← Nat.toList_repr, String.length_toList] at hl
      have := (Nat.length_repr_le_iff (by decide)).mp hl
      omega
theorem name_spl {j j1 : Nat} {r r1 w : List Nat} (h : nameR j r = .ok w j1 r1) : r = w ++ r1 ∧ ∀ c ∈ w, c < 128 := by
  unfold nameR at h
  split at h
  · cases h
  · cases h
    exact ⟨(List.take_append_drop _ _).symm, fun c hc => let_small (lead_all isLet 6 r c hc)⟩
theorem own_spl {j j1 n : Nat} {r r1 : List Nat} (h : ownR j r = .ok n j1 r1) : r = figL n ++ r1 ∧ n < 1000000 := by
  unfold ownR at h
  split at h
  · rename_i h58
    obtain ⟨q, rfl⟩ : ∃ q, r = 58 :: q := by
      cases r with
      | nil => cases h58
      | cons c q => cases h58; exact ⟨q, rfl⟩
    unfold figR at h
    split at h
    · cases h
    · rename_i hb
      cases h
      have hb : lead isFig 6 q ≠ 0 ∧ q.head? ≠ some 48 := by
        refine ⟨fun z => hb ?_, fun z => hb ?_⟩
        · rw [show (58 :: q).tail = q from rfl, decide_eq_true z]
          rfl
        · rw [show (58 :: q).tail = q from rfl, decide_eq_true z, Bool.or_true]
      obtain ⟨k1, k2⟩ := lead_le isFig 6 q
      have hl : (q.take (lead isFig 6 q)).length = lead isFig 6 q := by
        rw [List.length_take]
        omega
      obtain ⟨e1, e2⟩ := figs_read (ds := q.take (lead isFig 6 q)) (lead_all isFig 6 q) (fun z => hb.1 (by rw [← hl, z]; rfl)) (fun z => hb.2 (by
        cases q with
        | nil => simp at z
        | cons c q =>
          cases e : lead isFig 6 (c :: q) with
          | zero => exact absurd e hb.1
          | succ k =>
            rw [e, List.take_succ_cons] at z
            exact z)) (by omega)
      refine ⟨?_, e2⟩
      show 58 :: q = figL (NumText.digitsVal (q.take (lead isFig 6 q))) ++ q.drop (lead isFig 6 q)
      rw [e1, List.cons_append, List.take_append_drop]
  · cases h
    exact ⟨rfl, by decide⟩
theorem head_tail {r : List Nat} {c : Nat} (h : r.head? = some c) : r = c :: r.tail := by
  cases r with
  | nil => cases h
  | cons d q => cases h; rfl
theorem parts_spl {nd : Nat → List Nat → Rs PyData} {m : Nat} (hn : ∀ j r t j1 r1, nd j r = .ok t j1 r1 → ∃ l, Spl m t l ∧ r = l ++ r1) {j j1 : Nat} {r r1 : List Nat} {ds : List PyData} (h : partsR nd j r = .ok ds j1 r1) :
    ∃ ls, SplAll m ds ls ∧ ls ≠ [] ∧ ds.length ≤ 2 ∧ r = TL.joinL [44] ls ++ [41] ++ r1 := by
  unfold partsR at h
  obtain ⟨t1, k1, q1, e1, h⟩ := bind_ok h
  obtain ⟨l1, s1, d1⟩ := hn _ _ _ _ _ e1
  split at h
  · rename_i hc
    cases h
    refine ⟨[l1], .cons s1 (.nil m), by simp, by show 1 ≤ 2; decide, ?_⟩
    rw [d1, head_tail hc]
    show l1 ++ 41 :: q1.tail = l1 ++ [41] ++ q1.tail
    simp
  · split at h
    · rename_i hc
      obtain ⟨t2, k2, q2, e2, h⟩ := bind_ok h
      obtain ⟨l2, s2, d2⟩ := hn _ _ _ _ _ e2
      split at h
      · rename_i hc2
        cases h
        refine ⟨[l1, l2], .cons s1 (.cons s2 (.nil m)), by simp, by show 2 ≤ 2; decide, ?_⟩
        rw [d1, head_tail hc, d2, head_tail hc2]
        show l1 ++ 44 :: (l2 ++ 41 :: q2.tail) = l1 ++ ([44] ++ l2) ++ [41] ++ q2.tail
        simp
      · cases h
    · cases h
theorem node_spl : ∀ (m j : Nat) (r : List Nat) (t : PyData) (j1 : Nat) (r1 : List Nat), nodeR m j r = .ok t j1 r1 → ∃ l, Spl (m + 1) t l ∧ r = l ++ r1 := by
  intro m
  induction m with
  | zero =>
    intro j r t j1 r1 h
    unfold nodeR at h
    obtain ⟨w, k1, q1, e1, h⟩ := bind_ok h
    obtain ⟨n, k2, q2, e2, h⟩ := bind_ok h
    obtain ⟨d1, hw⟩ := name_spl e1
    obtain ⟨d2, hn⟩ := own_spl e2
    cases h
    refine ⟨_, .mk hw hn (by decide) (.nil 0), ?_⟩
    rw [d1, d2]
    show w ++ (figL n ++ r1) = w ++ figL n ++ [] ++ r1
    simp
  | succ m ih =>
    intro j r t j1 r1 h
    unfold nodeR at h
    obtain ⟨w, k1, q1, e1, h⟩ := bind_ok h
    obtain ⟨n, k2, q2, e2, h⟩ := bind_ok h
    obtain ⟨d1, hw⟩ := name_spl e1
    obtain ⟨d2, hn⟩ := own_spl e2
    split at h
    · rename_i hc
      obtain ⟨ds, k3, q3, e3, h⟩ := bind_ok h
      obtain ⟨ls, sa, l0, hl, d3⟩ := parts_spl ih e3
      cases h
      refine ⟨_, .mk hw hn hl sa, ?_⟩
      rw [d1, d2, head_tail hc, d3]
      unfold parL
      rw [if_neg l0]
      simp
    · cases h
      refine ⟨_, .mk hw hn (by decide) (.nil (m + 1)), ?_⟩
      rw [d1, d2]
      show w ++ (figL n ++ r1) = w ++ figL n ++ [] ++ r1
      simp
theorem tree_spl {cs : List Nat} {t : PyData} {j : Nat} {r : List Nat} (h : treeR cs = .ok t j r) : Spl 31 t cs := by
  unfold treeR at h
  obtain ⟨u, k, q, e, h⟩ := bind_ok h
  split at h
  · rename_i hq
    cases h
    obtain ⟨l, s, d⟩ := node_spl 30 0 cs _ _ _ e
    rw [hq, List.append_nil] at d
    rw [d]
    exact s
  · cases h
theorem figL_len {n : Nat} (h : n < 1000000) : (figL n).length ≤ 7 := by
  unfold figL
  split
  · decide
  · rw [List.length_cons]
    have := num_len h
    omega
mutual
theorem tr_spl : ∀ {n k : Nat} {d : PyData}, Tr n k d → ∃ l, Spl n d l ∧ l.length ≤ 20 * k
  | _, _, _, .mk hz h0 h1 hl h => by
    rename_i n k z i ds
    obtain ⟨ls, ha, hs⟩ := trAll_spl h
    obtain ⟨x, rfl⟩ : ∃ x : Nat, i = (x : Int) := ⟨i.toNat, by omega⟩
    have e := Spl.mk (w := z.cps.toList) (n := x) hz.2 (by omega) hl ha
    unfold mkT at e
    rw [SX.S_tl] at e
    refine ⟨_, e, ?_⟩
    have lz : z.cps.toList.length ≤ 6 := by
      rw [Array.length_toList]
      exact hz.1
    have lf := figL_len (n := x) (by omega)
    have lp : (parL ls).length ≤ 20 * k + 4 := by
      unfold parL
      split
      · exact Nat.zero_le _
      · have := join_len ls
        have := ha.len
        rw [List.length_cons, List.length_append]
        show _ + 1 + 1 ≤ _
        omega
    rw [List.length_append, List.length_append]
    omega
theorem trAll_spl : ∀ {n k : Nat} {ds : List PyData}, TrAll n k ds → ∃ ls, SplAll n ds ls ∧ (ls.map (·.length)).sum ≤ 20 * k
  | _, _, _, .nil n => ⟨[], .nil n, Nat.zero_le _⟩
  | _, _, _, .cons h a => by
    obtain ⟨l, h1, h2⟩ := tr_spl h
    obtain ⟨ls, h3, h4⟩ := trAll_spl a
    refine ⟨l :: ls, .cons h1 h3, ?_⟩
    rw [List.map_cons, List.sum_cons]
    omega
end
theorem app_le {x y : Str} {m n : Nat} (hx : x.length ≤ m) (hy : y.length ≤ n) : (x ++ y).length ≤ m + n := by
  rw [strLen_append]
  omega
theorem fit2 {x y : Str} (hx : x.length ≤ 100000) (hy : y.length ≤ 100000) : x.length + y.length ≤ sizeLine := Nat.le_trans (show _ ≤ 200000 by omega) (by decide)
theorem sign_at {x : Str} {k : Nat} (h : k < x.length) : ∃ c, x.cps.toList[k]? = some c := ⟨x.cps.toList[k]'(by rw [Array.length_toList]; exact h), List.getElem?_eq_getElem _⟩
abbrev s__law_bent : Stmt := top 34
abbrev N__law_bent : List Str := ["_law_box", "_law_text", "_law_signs", "_law_way", "_law_sign", "_law_at", "_law_some"]
abbrev P__law_bent : List Str := ["_law_box", "_law_text"]
theorem sc__law_bent : FnScope N__law_bent P__law_bent (defScope s__law_bent) := ⟨rfl, rfl, rfl, by decide +kernel, rfl, by decide +kernel, by decide +kernel⟩
abbrev s__law_told : Stmt := top 35
abbrev N__law_told : List Str := ["_law_text", "_law_caught", "_law_found", "error", "_law_others", "_law_plain"]
abbrev P__law_told : List Str := ["_law_text"]
theorem sc__law_told : FnScope N__law_told P__law_told (defScope s__law_told) := ⟨rfl, rfl, rfl, by decide +kernel, rfl, by decide +kernel, by decide +kernel⟩
theorem takes_no {X : Cx} : Takes X (fun _ _ _ _ => False) := fun _ _ ⟨_, _, _, _, _, _, _, _, _, _, _, _, _, _, _, _, h⟩ => h.elim
def toldV (cs : List Nat) : V := match treeR cs with
  | .ok _ _ _ => .str (SX.S cs)
  | .bad p => .int (p : Nat)
def spTold9 : Sp := fun vs H Q _ => ∃ cs : List Nat, vs = [.str (SX.S cs)] ∧ cs.length ≤ 5000 ∧ ∀ H', Same H H' → Q (toldV cs) H'
structure To9 (mg : Str → Option Value) : Prop where
  isinstance : mg "isinstance" = none
  bool : mg "bool" = none
  ve : mg "ValueError" = none
structure Nb (K : PySem.W.Frag) (mg : Str → Option Value) (C Y1 Y2 Y3 Y4 Y5 Y6 : Addr) : Prop where
  nn : mg "BadText" = some (.ref C)
  y1 : mg "BadGrammar" = some (.ref Y1)
  y2 : mg "BadRow" = some (.ref Y2)
  y3 : mg "NoCap" = some (.ref Y3)
  y4 : mg "NoGiven" = some (.ref Y4)
  y5 : mg "NotLet" = some (.ref Y5)
  y6 : mg "NoTree" = some (.ref Y6)
  ex : PySem.W.exmOne K (.ref C) (.ref C) = some true
  xv : XvC K C
  at_ : PySem.W.findIn K (.ref C) "at" = some none
  others : PySem.W.kitAny K (.ref C) [.ref Y1, .ref Y2, .ref Y3, .ref Y4, .ref Y5, .ref Y6] = some false
  ve : PySem.W.kitOne K (.ref C) (.type "ValueError") = some true
def spBent9 : Sp := fun vs H Q _ => ∃ (a : Addr) (z : Str) (m : Nat) (b : List V), vs = [.ref a, .str z] ∧ H a = some (.lst b) ∧ BoxL m b ∧ m + 4 < 900000 ∧ z.length ≤ 10000 ∧
  ∀ (H' : Hp) (z' : Str) (b' : List V), But a H H' → H' a = some (.lst b') → BoxL (m + 4) b' → z'.length ≤ 3 * z.length + 10 → Q (.str z') H'
structure Be (mg : Str → Option Value) : Prop where
  len : mg "len" = none
  max : mg "max" = none
  int : mg "int" = none
section
variable {P : Program} {w : World} {K : PySem.W.Frag} {mg : Str → Option Value} {base : Heap} {C Y1 Y2 Y3 Y4 Y5 Y6 : Addr}
theorem ok_told9 (T : To9 mg) (N : Nb K mg C Y1 Y2 Y3 Y4 Y5 Y6) (ctree_in : CalX P w K mg base 66 "tree_in" (spTree K C) []) (c_law_spelled : C8.Cal P w K mg base 32 "_law_spelled" (spSpelled K 31) []) (D : Dd K mg "_law_told" s__law_told P__law_told) : C8.Cal P w K mg base 67 "_law_told" spTold9 [] := by
  refine D.cal sc__law_told (fun vs H Q E h => ?_) (fun f cdv A outer s H vs Q E hr h => ?_)
  · obtain ⟨cs, rfl, _⟩ := h
    rfl
  · obtain ⟨cs, rfl, hl, q⟩ := h
    refine ⟨_, (pss_cons (ps_asg (pe_tup (pa_cons pe_non (pa_cons pe_non pa_nil))) (pg_tup rfl (pgs_cons (pg_name (i := 1) sc__law_told.nd rfl (Or.inl rfl)) (pgs_cons (pg_name (i := 2) sc__law_told.nd rfl (Or.inl rfl)) pgs_nil))))
        (pss_cons (ps_try_keep (i := 3) rfl rfl rfl sc__law_told.nd rfl rfl ⟨by rfl, by decide, .inl N.nn⟩ takes_no
          (fun W pn xe tk hp => pss_one (ps_set (i := 2) sc__law_told.nd rfl (Or.inl rfl) (pe_cT ctree_in hr (by decide) (by rfl) tk (pa_cons (pv 0) pa_nil))))
          (fun a oe cls d pn hz hd => pss_one (ps_set (i := 1) sc__law_told.nd rfl (Or.inl rfl) (pv 3))))
        (pss_cons (ps_if (pt_cmpR op_isN (pv 1) pe_non (nomark _))
          (pss_one (ps_ret (C8.pe_c c_law_spelled hr (by decide) (by rfl) (pa_cons (pv 2) pa_nil))))
          pss_nil)
        (pss_cons (ps_set (i := 4) sc__law_told.nd rfl (Or.inl rfl) (pe_callB call_isXvT (by rfl) T.isinstance (by decide +kernel) (pa_cons (pv 1) (pa_cons (pe_tup (pa_cons (pe_glob (v := .ref Y1) rfl N.y1 rfl) (pa_cons (pe_glob (v := .ref Y2) rfl N.y2 rfl) (pa_cons (pe_glob (v := .ref Y3) rfl N.y3 rfl) (pa_cons (pe_glob (v := .ref Y4) rfl N.y4 rfl) (pa_cons (pe_glob (v := .ref Y5) rfl N.y5 rfl) (pa_cons (pe_glob (v := .ref Y6) rfl N.y6 rfl) pa_nil))))))) pa_nil))))
        (pss_cons (ps_set (i := 5) sc__law_told.nd rfl (Or.inl rfl) (pe_and (pe_callB call_isXv (by rfl) T.isinstance (by decide +kernel) (pa_cons (pv 1) (pa_cons (pe_bltn (v := .ty "ValueError") rfl T.ve (by decide +kernel) rfl) pa_nil))) (pe_and (pe_not (pv 4)) (pe_one (pe_not (pe_callB call_isi (by rfl) T.isinstance (by decide +kernel) (pa_cons (pe_xv (pv 1)) (pa_cons (pe_bltn (v := .ty "bool") rfl T.bool (by decide +kernel) rfl) pa_nil))))))))
        (pss_one (ps_ret (pe_ifExp (pt_val (pv 5)) (pe_xv (pv 1)) pe_non)))))))), ?_⟩
    refine ⟨by show 2 ≤ sizeLine; decide, fun t0 n0 => ⟨t0, _, rfl, SqT.of upd_same, rfl, _, _, rfl, _, _, rfl, rfl, ?_⟩⟩
    have s0 := same_upd (o := .tup [.non, .non]) n0
    refine ⟨_, rfl, cs, rfl, hl, ?_⟩
    unfold toldV at q
    cases et : treeR cs with
    | ok t j r =>
      rw [et] at q
      intro H1 v s1 hv
      refine ⟨_, rfl, rfl, _, rfl, ifT (by decide +kernel) ?_⟩
      exact ⟨_, rfl, v, t, cs, rfl, dp_same Nw.sub hv, tree_spl et, by omega, fun H2 s2 => q _ ((s0.trans s1).trans s2)⟩
    | bad p =>
      rw [et] at q
      intro H1 d s1 nd hd
      refine ⟨C, d, true, rfl, rfl, N.ex, fun _ a na => ?_, fun z => nomatch z⟩
      refine ⟨_, rfl, ?_⟩
      have nda : d ≠ a := ne_of_none hd na
      have s2 := s1.trans (same_upd (o := exv a C d) na)
      have ha : (upd H1 a (exv a C d)) a = some (exv a C d) := upd_same
      have hd2 : (upd H1 a (exv a C d)) d = some (.xd [("at", .int (p : Nat))]) := by
        rw [upd_ne nda]
        exact hd
      refine ⟨_, rfl, rfl, _, rfl, ifF (decide_eq_false (fun z => by cases z)) ?_⟩
      refine ⟨_, rfl, by show 6 ≤ sizeLine; decide, fun tp nt => ?_⟩
      have s3 := same_upd (o := .tup [.ref Y1, .ref Y2, .ref Y3, .ref Y4, .ref Y5, .ref Y6]) nt
      have ha3 := s3 _ _ ha
      have hd3 := s3 _ _ hd2
      refine ⟨a, C, d, tp, _, _, [.ref Y1, .ref Y2, .ref Y3, .ref Y4, .ref Y5, .ref Y6], false, rfl, ha3, N.xv, hd3, upd_same,
        .cons (.own Y1) (.cons (.own Y2) (.cons (.own Y3) (.cons (.own Y4) (.cons (.own Y5) (.cons (.own Y6) .nil))))), N.others, ?_⟩
      refine ⟨_, rfl, a, C, d, _, _, _, true, rfl, ha3, N.xv, hd3, .ty "ValueError", N.ve, _, rfl, iteT ?_⟩
      refine ⟨_, rfl, _, rfl, _, rfl, iteT ?_⟩
      refine ⟨_, rfl, a, C, d, _, .int (p : Nat), rfl, ha3, N.xv, N.at_, hd3, rfl, ?_⟩
      refine ⟨.int (p : Nat), .ty "bool", .type "int", .type "bool", false, rfl, .ty "bool", .base (.int _), kit_ty (by decide +kernel), _, rfl, ?_⟩
      refine ⟨_, rfl, _, rfl, iteT ?_⟩
      exact ⟨_, rfl, a, C, d, _, .int (p : Nat), rfl, ha3, N.xv, N.at_, hd3, rfl, q _ (s0.trans (s2.trans s3))⟩
theorem ok_bent9 (T : Be mg) (c_law_take : C8.Cal P w K mg base 1 "_law_take" spTake []) (D : Dd K mg "_law_bent" s__law_bent P__law_bent) : C8.Cal P w K mg base 2 "_law_bent" spBent9 [] := by
  refine D.cal sc__law_bent (fun vs H Q E h => ?_) (fun f cdv A outer s H vs Q E hr h => ?_)
  · obtain ⟨a, z, m, b, rfl, _⟩ := h
    rfl
  · obtain ⟨a, z, m, b, rfl, ha, hB, hm, hz, q⟩ := h
    refine ⟨_, (pss_cons (ps_set (i := 2) sc__law_bent.nd rfl (Or.inl rfl) (pe_op op_add_str (pe_op op_add_str (pe_op op_add_str pe_str (pe_op op_repS pe_str pe_int)) (pe_op op_repS pe_str pe_int)) (pe_op op_repS pe_str pe_int)))
        (pss_cons (ps_par rfl sc__law_bent.nd (i := 3) (j := 4) rfl rfl (by decide) rfl rfl (pa_cons (C8.pe_c c_law_take hr (by decide) (by rfl) (pa_cons (pv 0) (pa_cons pe_int pa_nil))) (pa_cons (pe_ix ix_str (pv 2) (C8.pe_c c_law_take hr (by decide) (by rfl) (pa_cons (pv 0) (pa_cons (pe_callB call_len_str (by rfl) T.len PySem.boot_len (pa_cons (pv 2) pa_nil)) pa_nil))) (fun _ _ => rfl)) pa_nil)) (by rfl))
        (pss_cons (ps_set (i := 5) sc__law_bent.nd rfl (Or.inl rfl) (pe_ix ix_list (pe_lst (pa_cons (C8.pe_c c_law_take hr (by decide) (by rfl) (pa_cons (pv 0) (pa_cons (pe_op op_add (pe_callB call_len_str (by rfl) T.len PySem.boot_len (pa_cons (pv 1) pa_nil)) pe_int) pa_nil))) (pa_cons (pe_callB (call_max2 rfl) (by rfl) T.max (by decide +kernel) (pa_cons pe_int (pa_cons (pe_op op_sub (pe_callB call_len_str (by rfl) T.len PySem.boot_len (pa_cons (pv 1) pa_nil)) pe_int) pa_nil))) pa_nil))) (pe_callTy call_int1 (by rfl) T.int (by decide +kernel) (pa_cons (pe_cmpR op_eq (C8.pe_c c_law_take hr (by decide) (by rfl) (pa_cons (pv 0) (pa_cons pe_int pa_nil))) pe_int (nomark _)) pa_nil)) (fun _ _ => rfl)))
        (pss_cons (ps_set (i := 6) sc__law_bent.nd rfl (Or.inl rfl) (pe_lst (pa_cons (pe_op op_add_str (pe_op op_add_str (pe_slice sl_str (pv 1) po_none (po_some (pv 5))) (pv 4)) (pe_slice sl_str (pv 1) (po_some (pv 5)) po_none)) (pa_cons (pe_op op_add_str (pe_slice sl_str (pv 1) po_none (po_some (pv 5))) (pe_slice sl_str (pv 1) (po_some (pe_op op_add (pv 5) pe_int)) po_none)) (pa_cons (pe_op op_add_str (pe_op op_add_str (pe_slice sl_str (pv 1) po_none (po_some (pv 5))) (pv 4)) (pe_slice sl_str (pv 1) (po_some (pe_op op_add (pv 5) pe_int)) po_none)) (pa_cons (pe_slice sl_str (pv 1) po_none (po_some (pv 5))) pa_nil))))))
        (pss_cons (ps_set (i := 6) sc__law_bent.nd rfl (Or.inl rfl) (pe_op op_cat (pv 6) (pe_lst (pa_cons (pe_op op_add_str (pe_op op_add_str (pe_slice sl_str (pv 1) po_none (po_some (pv 5))) (pe_slice sl_str (pv 1) (po_some (pv 5)) (po_some (pe_op op_add (pv 5) pe_int)))) (pe_slice sl_str (pv 1) (po_some (pv 5)) po_none)) (pa_cons (pe_op op_add_str (pe_op op_add_str (pe_slice sl_str (pv 1) po_none (po_some (pv 5))) (pe_revS (pe_slice sl_str (pv 1) (po_some (pv 5)) (po_some (pe_op op_add (pv 5) pe_int))))) (pe_slice sl_str (pv 1) (po_some (pe_op op_add (pv 5) pe_int)) po_none)) pa_nil)))))
        (pss_one (ps_ret (pe_ix ix_list (pe_op op_cat (pv 6) (pe_lst (pa_cons (pe_op op_add_str (pe_op op_add_str (pe_slice sl_str (pv 1) po_none (po_some (pv 5))) (pe_ix ix_list (pe_lst (pa_cons pe_str (pa_cons pe_str (pa_cons pe_str (pa_cons pe_str (pa_cons pe_str (pa_cons pe_str (pa_cons pe_str pa_nil)))))))) (pe_op op_mod (pv 5) pe_int) (fun _ _ => rfl))) (pe_slice sl_str (pv 1) (po_some (pv 5)) po_none)) pa_nil))) (pv 3) (fun _ _ => rfl))))))))), ?_⟩
    have lz : z.length ≤ sizeLine := Nat.le_trans hz (by decide)
    have cS : ∀ lo hi, (cutS z lo hi).length ≤ z.length := fun lo hi => cutS_length _ _ _
    have cB : ∀ lo hi, (cutS z lo hi).length ≤ 100000 := fun lo hi => Nat.le_trans (cS lo hi) (by omega)
    refine ⟨_, 2, congrArg V.str (SX.S_tl _).symm, rfl, by decide +kernel, by decide, _, _, rfl, rfl, by decide +kernel, ?_⟩
    refine ⟨_, 3, congrArg V.str (SX.S_tl _).symm, rfl, by decide +kernel, by decide, _, _, rfl, rfl, by decide +kernel, ?_⟩
    refine ⟨_, 6, congrArg V.str (SX.S_tl _).symm, rfl, by decide +kernel, by decide, _, _, rfl, rfl, by decide +kernel, ?_⟩
    refine ⟨_, rfl, a, 7, m, b, rfl, ha, hB, by omega, by decide, by decide, fun r1 b1 h1 h1' hB1 => ?_⟩
    refine ⟨_, rfl, _, rfl, _, rfl, _, rfl, by decide +kernel, a, _, _, b1, rfl, upd_same, hB1, by omega, by decide +kernel, by decide +kernel, fun r2 b2 h2 h2' hB2 => ?_⟩
    obtain ⟨k2, rfl⟩ := Int.eq_ofNat_of_zero_le h2
    obtain ⟨c2, e2⟩ := sign_at (Int.ofNat_lt.mp h2')
    refine ⟨_, _, c2, rfl, rfl, by decide +kernel, atI_nat (j := k2) e2, ?_⟩
    refine ⟨_, _, rfl, ?_⟩
    refine ⟨_, rfl, _, rfl, z, rfl, lz, _, _, rfl, rfl, a, _, _, b2, rfl, upd_same, hB2, by omega, by omega, by omega, fun r3 b3 h3 h3' hB3 => ?_⟩
    refine ⟨_, rfl, z, rfl, lz, _, _, rfl, rfl, _, _, rfl, by show 2 ≤ sizeLine; decide, fun l3 n3 => ?_⟩
    have nl3 : a ≠ l3 := fun y => by
      rw [← y, upd_same] at n3
      cases n3
    refine ⟨_, rfl, a, 5, _, b3, rfl, same_upd n3 _ _ upd_same, hB3, by omega, by decide, by decide, fun r4 b4 h4 h4' hB4 => ⟨rfl, .inr ⟨_, rfl, ?_⟩⟩⟩
    obtain ⟨k3, rfl⟩ := Int.eq_ofNat_of_zero_le h3
    obtain ⟨at_, hat⟩ : ∃ at_ : Nat, atI [V.int (k3 : Nat), .int (if (z.length : Int) - 1 > 0 then (z.length : Int) - 1 else 0)] (if decide (V.int r4 = V.int 0) = true then 1 else 0) = some (.int (at_ : Nat)) := by
      cases decide (V.int r4 = V.int 0) with
      | false => exact ⟨k3, atI_nat (j := 0) rfl⟩
      | true =>
        refine ⟨((if (z.length : Int) - 1 > 0 then (z.length : Int) - 1 else 0)).toNat, ?_⟩
        rw [Int.toNat_of_nonneg (by split <;> omega)]
        exact atI_nat (j := 1) rfl
    refine ⟨l3, _, _, _, rfl, rfl, SqL.of (by rw [upd_ne nl3.symm, upd_same]), hat, ?_⟩
    have btG : But a H (upd (upd (upd (upd (upd H a (.lst b1)) a (.lst b2)) a (.lst b3)) l3 (.lst [V.int (k3 : Nat), .int (if (z.length : Int) - 1 > 0 then (z.length : Int) - 1 else 0)])) a (.lst b4)) := But.upd (But.new (But.upd (But.upd (But.upd (But.refl a H)))) n3)
    have haG : (upd (upd (upd (upd (upd H a (.lst b1)) a (.lst b2)) a (.lst b3)) l3 (.lst [V.int (k3 : Nat), .int (if (z.length : Int) - 1 > 0 then (z.length : Int) - 1 else 0)])) a (.lst b4)) a = some (.lst b4) := upd_same
    obtain ⟨G, eG⟩ : ∃ G, G = upd (upd (upd (upd (upd H a (.lst b1)) a (.lst b2)) a (.lst b3)) l3 (.lst [V.int (k3 : Nat), .int (if (z.length : Int) - 1 > 0 then (z.length : Int) - 1 else 0)])) a (.lst b4) := ⟨_, rfl⟩
    rw [← eG] at btG haG ⊢
    have sg : (⟨#[c2]⟩ : Str).length = 1 := rfl
    have i1 := app_le (app_le (cS none (some (at_ : Int))) (Nat.le_of_eq sg)) (cS (some (at_ : Int)) none)
    have i2 := app_le (cS none (some (at_ : Int))) (cS (some ((at_ : Int) + 1)) none)
    have i3 := app_le (app_le (cS none (some (at_ : Int))) (Nat.le_of_eq sg)) (cS (some ((at_ : Int) + 1)) none)
    have i4 := cS none (some (at_ : Int))
    have i5 := app_le (app_le (cS none (some (at_ : Int))) (cS (some (at_ : Int)) (some ((at_ : Int) + 1)))) (cS (some (at_ : Int)) none)
    have u1 := app_le (cS none (some (at_ : Int))) (Nat.le_of_eq sg)
    have u5 := app_le (cS none (some (at_ : Int))) (cS (some (at_ : Int)) (some ((at_ : Int) + 1)))
    -- the first four
    refine ⟨_, rfl, _, rfl, _, rfl, z, rfl, lz, _, rfl, _, _, rfl, rfl, fit2 (cB _ _) (by rw [sg]; decide), _, rfl, _, rfl, _, rfl, z, rfl, lz, _, _, rfl, rfl, fit2 (by omega) (cB _ _), ?_⟩
    refine ⟨_, rfl, _, rfl, _, rfl, z, rfl, lz, _, rfl, _, rfl, _, _, rfl, rfl, _, rfl, z, rfl, lz, _, _, rfl, rfl, fit2 (cB _ _) (cB _ _), ?_⟩
    refine ⟨_, rfl, _, rfl, _, rfl, z, rfl, lz, _, rfl, _, _, rfl, rfl, fit2 (cB _ _) (by rw [sg]; decide), _, rfl, _, rfl, _, _, rfl, rfl, _, rfl, z, rfl, lz, _, _, rfl, rfl, fit2 (by omega) (cB _ _), ?_⟩
    refine ⟨_, rfl, _, rfl, _, rfl, z, rfl, lz, by show 4 ≤ sizeLine; decide, fun l4 n4 => ?_⟩
    -- two more
    refine ⟨_, rfl, _, rfl, _, rfl, _, rfl, z, rfl, lz, _, rfl, _, rfl, _, rfl, _, rfl, _, _, rfl, rfl, _, rfl, z, rfl, lz, _, _, rfl, rfl, fit2 (cB _ _) (cB _ _), _, rfl, _, rfl, _, rfl, z, rfl, lz, _, _, rfl, rfl, fit2 (by omega) (cB _ _), ?_⟩
    refine ⟨_, rfl, _, rfl, _, rfl, z, rfl, lz, _, rfl, _, rfl, _, rfl, _, rfl, _, _, rfl, rfl, _, rfl, z, rfl, lz, _, rfl, cB _ _, fun z6 hz6 => ?_⟩
    have hz6' : z6.length ≤ z.length := Nat.le_trans hz6 (cS _ _)
    have u6 := app_le (cS none (some (at_ : Int))) hz6'
    have i6 := app_le u6 (cS (some ((at_ : Int) + 2)) none)
    refine ⟨_, _, rfl, rfl, fit2 (cB _ _) (by omega), _, rfl, _, rfl, _, _, rfl, rfl, _, rfl, z, rfl, lz, _, _, rfl, rfl, fit2 (by omega) (cB _ _), by show 2 ≤ sizeLine; decide, fun l5 n5 => ?_⟩
    have g4 := same_upd (o := .lst [.str (cutS z none (some (at_ : Int)) ++ ⟨#[c2]⟩ ++ cutS z (some (at_ : Int)) none), .str (cutS z none (some (at_ : Int)) ++ cutS z (some ((at_ : Int) + 1)) none), .str (cutS z none (some (at_ : Int)) ++ ⟨#[c2]⟩ ++ cutS z (some ((at_ : Int) + 1)) none), .str (cutS z none (some (at_ : Int)))]) n4
    have g5 := same_upd (o := .lst [.str (cutS z none (some (at_ : Int)) ++ cutS z (some (at_ : Int)) (some ((at_ : Int) + 1)) ++ cutS z (some (at_ : Int)) none), .str (cutS z none (some (at_ : Int)) ++ z6 ++ cutS z (some ((at_ : Int) + 2)) none)]) n5
    refine ⟨l4, l5, _, _, rfl, rfl, g5 _ _ upd_same, upd_same, by show 6 ≤ sizeLine; decide, fun l6 n6 => ?_⟩
    -- the last one
    refine ⟨_, rfl, _, rfl, _, rfl, _, rfl, z, rfl, lz, by show 7 ≤ sizeLine; decide, fun l7 n7 => ?_⟩
    have g6 := same_upd (o := .lst ([V.str (cutS z none (some (at_ : Int)) ++ ⟨#[c2]⟩ ++ cutS z (some (at_ : Int)) none), .str (cutS z none (some (at_ : Int)) ++ cutS z (some ((at_ : Int) + 1)) none), .str (cutS z none (some (at_ : Int)) ++ ⟨#[c2]⟩ ++ cutS z (some ((at_ : Int) + 1)) none), .str (cutS z none (some (at_ : Int)))] ++ [V.str (cutS z none (some (at_ : Int)) ++ cutS z (some (at_ : Int)) (some ((at_ : Int) + 1)) ++ cutS z (some (at_ : Int)) none), .str (cutS z none (some (at_ : Int)) ++ z6 ++ cutS z (some ((at_ : Int) + 2)) none)])) n6
    have g7 := same_upd (o := .lst [.str "own", .str ":0", .str "abcdefg", .str ":1000000", .str "(a,b,c)", .str "()", .str ":7:7"]) n7
    obtain ⟨lit, hlit, hv⟩ : ∃ lit : Str, lit.length ≤ 8 ∧ atI [V.str "own", .str ":0", .str "abcdefg", .str ":1000000", .str "(a,b,c)", .str "()", .str ":7:7"] ((at_ : Int) % 7) = some (.str lit) := by
      have hc : (at_ : Int) % 7 = 0 ∨ (at_ : Int) % 7 = 1 ∨ (at_ : Int) % 7 = 2 ∨ (at_ : Int) % 7 = 3 ∨ (at_ : Int) % 7 = 4 ∨ (at_ : Int) % 7 = 5 ∨ (at_ : Int) % 7 = 6 := by omega
      rcases hc with e | e | e | e | e | e | e <;> rw [e]
      · exact ⟨_, by decide +kernel, atI_nat (j := 0) rfl⟩
      · exact ⟨_, by decide +kernel, atI_nat (j := 1) rfl⟩
      · exact ⟨_, by decide +kernel, atI_nat (j := 2) rfl⟩
      · exact ⟨_, by decide +kernel, atI_nat (j := 3) rfl⟩
      · exact ⟨_, by decide +kernel, atI_nat (j := 4) rfl⟩
      · exact ⟨_, by decide +kernel, atI_nat (j := 5) rfl⟩
      · exact ⟨_, by decide +kernel, atI_nat (j := 6) rfl⟩
    have u7 := app_le (cS none (some (at_ : Int))) hlit
    have i7 := app_le u7 (cS (some (at_ : Int)) none)
    refine ⟨_, rfl, _, _, rfl, rfl, (by show (0 : Int) < 7; decide), l7, _, _, .str lit, rfl, rfl, SqL.of upd_same, hv, ?_⟩
    refine ⟨_, _, rfl, rfl, fit2 (cB _ _) (by omega), _, rfl, _, rfl, _, rfl, z, rfl, lz, _, _, rfl, rfl, fit2 (by omega) (cB _ _), by show 1 ≤ sizeLine; decide, fun l8 n8 => ?_⟩
    have g8 := same_upd (o := .lst [.str (cutS z none (some (at_ : Int)) ++ lit ++ cutS z (some (at_ : Int)) none)]) n8
    refine ⟨l6, l8, _, _, rfl, rfl, g8 _ _ (g7 _ _ upd_same), upd_same, by show 7 ≤ sizeLine; decide, fun l9 n9 => ?_⟩
    have gAll := ((((g4.trans g5).trans g6).trans g7).trans g8).trans (same_upd (o := .lst ([V.str (cutS z none (some (at_ : Int)) ++ ⟨#[c2]⟩ ++ cutS z (some (at_ : Int)) none), .str (cutS z none (some (at_ : Int)) ++ cutS z (some ((at_ : Int) + 1)) none), .str (cutS z none (some (at_ : Int)) ++ ⟨#[c2]⟩ ++ cutS z (some ((at_ : Int) + 1)) none), .str (cutS z none (some (at_ : Int)))] ++ [V.str (cutS z none (some (at_ : Int)) ++ cutS z (some (at_ : Int)) (some ((at_ : Int) + 1)) ++ cutS z (some (at_ : Int)) none), .str (cutS z none (some (at_ : Int)) ++ z6 ++ cutS z (some ((at_ : Int) + 2)) none)] ++ [V.str (cutS z none (some (at_ : Int)) ++ lit ++ cutS z (some (at_ : Int)) none)])) n9)
    have fin : ∀ z' : Str, z'.length ≤ 3 * z.length + 10 → Q (.str z') _ := fun z' hz' => q _ z' b4 (btG.trans (But.of gAll)) (gAll _ _ haG) (hB4.mono (by omega)) hz'
    obtain ⟨k1, rfl⟩ := Int.eq_ofNat_of_zero_le h1
    have hk : k1 = 0 ∨ k1 = 1 ∨ k1 = 2 ∨ k1 = 3 ∨ k1 = 4 ∨ k1 = 5 ∨ k1 = 6 := by omega
    rcases hk with rfl | rfl | rfl | rfl | rfl | rfl | rfl
    · exact ⟨_, rfl, l9, _, _, _, rfl, rfl, SqL.of upd_same, atI_nat (j := 0) rfl, fin _ (by omega)⟩
    · exact ⟨_, rfl, l9, _, _, _, rfl, rfl, SqL.of upd_same, atI_nat (j := 1) rfl, fin _ (by omega)⟩
    · exact ⟨_, rfl, l9, _, _, _, rfl, rfl, SqL.of upd_same, atI_nat (j := 2) rfl, fin _ (by omega)⟩
    · exact ⟨_, rfl, l9, _, _, _, rfl, rfl, SqL.of upd_same, atI_nat (j := 3) rfl, fin _ (by omega)⟩
    · exact ⟨_, rfl, l9, _, _, _, rfl, rfl, SqL.of upd_same, atI_nat (j := 4) rfl, fin _ (by omega)⟩
    · exact ⟨_, rfl, l9, _, _, _, rfl, rfl, SqL.of upd_same, atI_nat (j := 5) rfl, fin _ (by omega)⟩
    · exact ⟨_, rfl, l9, _, _, _, rfl, rfl, SqL.of upd_same, atI_nat (j := 6) rfl, fin _ (by omega)⟩
end
abbrev s__law_right : Stmt := top 36
abbrev N__law_right : List Str := ["_law_box", "_law_names", "_law_texts", "_law_turn", "_law_text", "_law_more", "_law_bent_here", "_law_due", "_law_found"]
abbrev P__law_right : List Str := ["_law_box"]
theorem sc__law_right : FnScope N__law_right P__law_right (defScope s__law_right) := ⟨rfl, rfl, rfl, by decide +kernel, rfl, by decide +kernel, by decide +kernel⟩
abbrev s_law : Stmt := top 37
abbrev N_law : List Str := ["_law_script", "_law_cells", "_law_k"]
abbrev P_law : List Str := ["_law_script"]
theorem sc_law : FnScope N_law P_law (defScope s_law) := ⟨rfl, rfl, rfl, by decide +kernel, rfl, by decide +kernel, by decide +kernel⟩
def Tx20 (n : Nat) (v : V) : Prop := ∃ z : Str, v = .str z ∧ z.length ≤ n
def TxAll (n : Nat) (vs : List V) : Prop := ∀ v ∈ vs, Tx20 n v
theorem txa_nil {n : Nat} : TxAll n [] := fun v h => nomatch h
theorem txa_cons {n : Nat} {v : V} {vs : List V} (h : Tx20 n v) (a : TxAll n vs) : TxAll n (v :: vs) := fun u hu => by
  rcases List.mem_cons.mp hu with rfl | hu
  · exact h
  · exact a u hu
theorem txa_app {n : Nat} {us vs : List V} (h : TxAll n us) (a : TxAll n vs) : TxAll n (us ++ vs) := fun u hu => by
  rcases List.mem_append.mp hu with hu | hu
  · exact h u hu
  · exact a u hu
structure Ri9 (mg : Str → Option Value) : Prop where
  range : mg "range" = none
  len : mg "len" = none
  isinstance : mg "isinstance" = none
  int : mg "int" = none
  all : mg "all" = none
  max : mg "max" = none
def spRight9 : Sp := fun vs H Q _ => ∃ (a : Addr) (b : List V), vs = [.ref a] ∧ H a = some (.lst b) ∧ BoxL 0 b ∧ ∀ H', But a H H' → Q (.bl true) H'
def spLaw (K : PySem.W.Frag) : Sp := fun vs H Q _ => ∃ (a : Addr) (ns : List Int), vs = [.ref a] ∧ SqL K H a (ns.map V.int) ∧ ns.length ≤ 63 ∧ ∀ H', Q (.bl true) H'
section
variable {P : Program} {w : World} {K : PySem.W.Frag} {mg : Str → Option Value} {base : Heap}
theorem ok_right9 (T : Ri9 mg) (c_law_take : C8.Cal P w K mg base 1 "_law_take" spTake []) (c_law_named : C8.Cal P w K mg base 2 "_law_named" spNamed []) (c_law_wild : C8.Cal P w K mg base 33 "_law_wild" (spWild K 30) []) (c_law_spelled : C8.Cal P w K mg base 32 "_law_spelled" (spSpelled K 31) [])
    (c_law_bent : C8.Cal P w K mg base 2 "_law_bent" spBent9 []) (c_law_bad_at : C8.Cal P w K mg base 1 "_law_bad_at" spBad []) (c_law_told : C8.Cal P w K mg base 67 "_law_told" spTold9 []) (D : Dd K mg "_law_right" s__law_right P__law_right) : C8.Cal P w K mg base 68 "_law_right" spRight9 [] := by
  refine D.cal sc__law_right (fun vs H Q E h => ?_) (fun f cdv A outer s H vs Q E hr h => ?_)
  · obtain ⟨a, b, rfl, _⟩ := h
    rfl
  · obtain ⟨a, b, rfl, ha, hB, q⟩ := h
    refine ⟨_, (pss_cons (ps_set (i := 1) sc__law_right.nd rfl (Or.inl rfl) (C8.pe_c c_law_named hr (by decide) (by rfl) (pa_cons (pv 0) (pa_cons pe_int pa_nil))))
        (pss_cons (ps_set (i := 2) sc__law_right.nd rfl (Or.inl rfl) (pe_lst (pa_cons pe_str (pa_cons pe_str (pa_cons pe_str (pa_cons pe_str (pa_cons pe_str (pa_cons pe_str (pa_cons pe_str (pa_cons pe_str (pa_cons pe_str (pa_cons pe_str (pa_cons pe_str (pa_cons pe_str (pa_cons pe_str pa_nil)))))))))))))))
        (pss_cons (ps_set (i := 2) sc__law_right.nd rfl (Or.inl rfl) (pe_op op_cat (pv 2) (pe_lst (pa_cons pe_str (pa_cons pe_str (pa_cons pe_str (pa_cons pe_str (pa_cons pe_str (pa_cons pe_str (pa_cons pe_str (pa_cons pe_str (pa_cons pe_str (pa_cons pe_str (pa_cons pe_str (pa_cons pe_str pa_nil)))))))))))))))
        (pss_cons (ps_expr (pe_bm PySem.F.plainAttrs_list PySem.F.slot_list_append PySem.F.type_list_append mt_append (pv 2) (pa_cons pe_str pa_nil)))
        (C8.pss_cut (ps_set (i := 2) sc__law_right.nd rfl (Or.inl rfl) (pe_op op_cat (pv 2) (pe_lst (pa_cons (pe_op op_add_str (pe_op op_add_str (pe_op op_repS pe_str pe_int) pe_str) (pe_op op_repS pe_str pe_int)) (pa_cons (pe_op op_add_str (pe_op op_add_str (pe_op op_repS pe_str pe_int) pe_str) (pe_op op_repS pe_str pe_int)) (pa_cons (pe_op op_add_str (pe_op op_repS pe_str pe_int) pe_str) (pa_cons (pe_op op_repS pe_str pe_int) (pa_cons (pe_op op_repS pe_str pe_int) pa_nil))))))))
        (C8.pss_cut (ps_for PassesOwn.never rfl (pi_range1 rfl T.range (pa_cons pe_int pa_nil)) (pg_name (i := 3) sc__law_right.nd rfl (Or.inl rfl))
          (pss_cons (ps_set (i := 4) sc__law_right.nd rfl (Or.inl rfl) (C8.pe_c c_law_spelled hr (by decide) (by rfl) (pa_cons (C8.pe_c c_law_wild hr (by decide) (by rfl) (pa_cons (pv 0) (pa_cons (pv 1) (pa_cons (pe_op op_add pe_int (C8.pe_c c_law_take hr (by decide) (by rfl) (pa_cons (pv 0) (pa_cons (pe_ix ix_list (pe_lst (pa_cons pe_int (pa_cons pe_int pa_nil))) (C8.pe_c c_law_take hr (by decide) (by rfl) (pa_cons (pv 0) (pa_cons pe_int pa_nil))) (fun _ _ => rfl)) pa_nil)))) (pa_cons pe_int pa_nil))))) pa_nil)))
        (pss_one (ps_for PassesOwn.never rfl (pi_range1 rfl T.range (pa_cons pe_int pa_nil)) (pg_name (i := 5) sc__law_right.nd rfl (Or.inl rfl))
          (pss_cons (ps_set (i := 6) sc__law_right.nd rfl (Or.inl rfl) (C8.pe_c c_law_bent hr (by decide) (by rfl) (pa_cons (pv 0) (pa_cons (pv 4) pa_nil))))
        (pss_one (ps_expr (pe_bm PySem.F.plainAttrs_list PySem.F.slot_list_append PySem.F.type_list_append mt_append (pv 2) (pa_cons (pe_ifExp (pt_cmpR op_eq (C8.pe_c c_law_take hr (by decide) (by rfl) (pa_cons (pv 0) (pa_cons pe_int pa_nil))) pe_int (nomark _)) (C8.pe_c c_law_bent hr (by decide) (by rfl) (pa_cons (pv 0) (pa_cons (pv 6) pa_nil))) (pv 6)) pa_nil)))))))))
        (pss_cons (ps_for PassesOwn.never rfl (pi_list (pe_lc (own := [("_law_text", 4)]) (by exact rfl) sc__law_right.nd (pi_list (pv 2)) (blkOk_by (own := [("_law_text", 4)]) (N := N__law_right) (sc := defScope s__law_right) (by decide +kernel)) (fun _ _ _ _ _ => (pg_name (i := 4) sc__law_right.nd rfl (Or.inl rfl))) (fun _ _ _ _ _ => (pts_one (pt_cmpR op_lt (pe_callB call_len_str (by rfl) T.len PySem.boot_len (pa_cons (pv 4) pa_nil)) pe_int (nomark _)))) (fun _ _ _ _ _ => (pv 4)))) (pg_name (i := 4) sc__law_right.nd rfl (Or.inl rfl))
          (pss_cons (ps_par rfl sc__law_right.nd (i := 7) (j := 8) rfl rfl (by decide) rfl rfl (pa_cons (C8.pe_c c_law_bad_at hr (by decide) (by rfl) (pa_cons (pv 4) pa_nil)) (pa_cons (C8.pe_c c_law_told hr (by decide) (by rfl) (pa_cons (pv 4) pa_nil)) pa_nil)) (by rfl))
        (pss_one (ps_if (PW.pt (pw_or (PW.pt (pw_and (pt_cmpR op_isN (pv 7) pe_non (nomark _)) (pw_and1 (pt_cmpR op_ne (pv 8) (pv 4) (nomark _))))) (pw_or1 (PW.pt (pw_and (pt_cmpR op_notN (pv 7) pe_non (nomark _)) (pw_and1 (PW.pt (pw_or (pt_not (pt_val (pe_callB call_isi (by rfl) T.isinstance (by decide +kernel) (pa_cons (pv 8) (pa_cons (pe_bltn (v := .ty "int") rfl T.int (by decide +kernel) rfl) pa_nil))))) (pw_or1 (pt_cmpR op_ne (pv 8) (pv 7) (nomark _)))))))))))
          (pss_one (ps_ret pe_bl))
          pss_nil))))
        (pss_one (ps_ret pe_bl))))))))), ?_⟩
    refine ⟨_, rfl, a, 4, 0, b, rfl, by decide, ha, hB, by decide, fun H1 l zs b1 bt1 nl hl hzl hzs hb1 hB1 => ?_⟩
    have nla : l ≠ a := fun z => by
      rw [z, ha] at nl
      cases nl
    refine ⟨by show 13 ≤ sizeLine; decide, fun l1 n1 => ?_⟩
    have g1 := same_upd (o := .lst [.str "", .str "a", .str "own", .str "own:1", .str "owna", .str "a:", .str "a:0", .str "a:01", .str "a:999999", .str "a:1000000", .str "abcdef", .str "abcdefg", .str "a(b)"]) n1
    refine ⟨_, rfl, by show 12 ≤ sizeLine; decide, fun l2 n2 => ?_⟩
    have g2 := same_upd (o := .lst [.str "a(b,c)", .str "a(b,c,d)", .str "a()", .str "a(b", .str "a(b,", .str "a)", .str "a(b))", .str "a,b", .str "(a)", .str " a", .str "a ", .str "a(b)c"]) n2
    refine ⟨l1, l2, _, _, rfl, rfl, g2 _ _ upd_same, upd_same, by show 25 ≤ sizeLine; decide, fun l3 n3 => ?_⟩
    have tx1 : TxAll 20000 ([V.str "", .str "a", .str "own", .str "own:1", .str "owna", .str "a:", .str "a:0", .str "a:01", .str "a:999999", .str "a:1000000", .str "abcdef", .str "abcdefg", .str "a(b)"] ++ [V.str "a(b,c)", .str "a(b,c,d)", .str "a()", .str "a(b", .str "a(b,", .str "a)", .str "a(b))", .str "a,b", .str "(a)", .str " a", .str "a ", .str "a(b)c"]) :=
      txa_app (by repeat (first | exact txa_nil | refine txa_cons ⟨_, rfl, by decide +kernel⟩ ?_)) (by repeat (first | exact txa_nil | refine txa_cons ⟨_, rfl, by decide +kernel⟩ ?_))
    have ll1 : ([V.str "", .str "a", .str "own", .str "own:1", .str "owna", .str "a:", .str "a:0", .str "a:01", .str "a:999999", .str "a:1000000", .str "abcdef", .str "abcdefg", .str "a(b)"] ++ [V.str "a(b,c)", .str "a(b,c,d)", .str "a()", .str "a(b", .str "a(b,", .str "a)", .str "a(b))", .str "a,b", .str "(a)", .str " a", .str "a ", .str "a(b)c"]).length = 25 := rfl
    obtain ⟨us, eus⟩ : ∃ us, us = [V.str "", .str "a", .str "own", .str "own:1", .str "owna", .str "a:", .str "a:0", .str "a:01", .str "a:999999", .str "a:1000000", .str "abcdef", .str "abcdefg", .str "a(b)"] ++ [V.str "a(b,c)", .str "a(b,c,d)", .str "a()", .str "a(b", .str "a(b,", .str "a)", .str "a(b))", .str "a,b", .str "(a)", .str " a", .str "a ", .str "a(b)c"] := ⟨_, rfl⟩
    rw [← eus] at tx1 ll1 ⊢
    have g3 := same_upd (o := .lst us) n3
    have s13 := (g1.trans g2).trans g3
    have hl3 := upd_same (a := l3) (o := .lst us) (H := upd (upd H1 l1 (.lst [.str "", .str "a", .str "own", .str "own:1", .str "owna", .str "a:", .str "a:0", .str "a:01", .str "a:999999", .str "a:1000000", .str "abcdef", .str "abcdefg", .str "a(b)"])) l2 (.lst [.str "a(b,c)", .str "a(b,c,d)", .str "a()", .str "a(b", .str "a(b,", .str "a)", .str "a(b))", .str "a,b", .str "(a)", .str " a", .str "a ", .str "a(b)c"]))
    have n3H1 : H1 l3 = none := (g1.trans g2).free n3
    obtain ⟨H3, e3⟩ : ∃ H3, H3 = upd (upd (upd H1 l1 (.lst [.str "", .str "a", .str "own", .str "own:1", .str "owna", .str "a:", .str "a:0", .str "a:01", .str "a:999999", .str "a:1000000", .str "abcdef", .str "abcdefg", .str "a(b)"])) l2 (.lst [.str "a(b,c)", .str "a(b,c,d)", .str "a()", .str "a(b", .str "a(b,", .str "a)", .str "a(b))", .str "a,b", .str "(a)", .str " a", .str "a ", .str "a(b)c"])) l3 (.lst us) := ⟨_, rfl⟩
    rw [← e3] at s13 hl3 ⊢
    clear g1 g2 g3
    refine ⟨_, rfl, .inl ⟨rfl, _, SqL.of hl3⟩, l3, _, .str "a(b):1", rfl, rfl, hl3, by rw [ll1]; decide, ?_⟩
    have s14 : Same H1 (upd H3 l3 (.lst (us ++ [.str "a(b):1"]))) := Same.at_ s13 n3H1
    have hl4 : (upd H3 l3 (.lst (us ++ [.str "a(b):1"]))) l3 = some (.lst (us ++ [.str "a(b):1"])) := upd_same
    obtain ⟨H4, e4⟩ : ∃ H4, H4 = upd H3 l3 (.lst (us ++ [.str "a(b):1"])) := ⟨_, rfl⟩
    rw [← e4] at s14 hl4 ⊢
    refine ⟨fun σ X => ∃ F vs, σ = [some (.ref a), some (.ref l), some (.ref F), none, none, none, none, none, none] ∧ Same H1 X ∧ H1 F = none ∧ X F = some (.lst vs) ∧ TxAll 20000 vs ∧ vs.length = 31, ?_, ?_⟩
    · refine ⟨_, rfl, ?_⟩
      refine ⟨_, 30, congrArg V.str (SX.S_tl _).symm, rfl, by decide +kernel, by decide, _, _, rfl, rfl, by decide +kernel, _, 30, congrArg V.str (SX.S_tl _).symm, rfl, by decide +kernel, by decide, _, _, rfl, rfl, by decide +kernel, ?_⟩
      refine ⟨_, 31, congrArg V.str (SX.S_tl _).symm, rfl, by decide +kernel, by decide, _, _, rfl, rfl, by decide +kernel, _, 31, congrArg V.str (SX.S_tl _).symm, rfl, by decide +kernel, by decide, _, _, rfl, rfl, by decide +kernel, ?_⟩
      refine ⟨_, 30, congrArg V.str (SX.S_tl _).symm, rfl, by decide +kernel, by decide, _, _, rfl, rfl, by decide +kernel, ?_⟩
      refine ⟨_, 40, congrArg V.str (SX.S_tl _).symm, rfl, by decide +kernel, by decide, ?_⟩
      refine ⟨_, 1200, congrArg V.str (SX.S_tl _).symm, rfl, by decide +kernel, by decide, ?_⟩
      refine ⟨by show 5 ≤ sizeLine; decide, fun l5 n5 => ?_⟩
      refine ⟨l3, l5, _, _, rfl, rfl, same_upd n5 _ _ hl4, upd_same, ?_, fun F nF => ?_⟩
      · rw [List.length_append, ll1]
        decide
      · refine ⟨F, _, rfl, s14.trans ((same_upd n5).trans (same_upd nF)), (s14.trans (same_upd n5)).free nF, upd_same, txa_app (txa_app tx1 (txa_cons ⟨_, rfl, by decide +kernel⟩ txa_nil)) ?_, ?_⟩
        · repeat (first | exact txa_nil | refine txa_cons ⟨_, rfl, by decide +kernel⟩ ?_)
        · rw [List.length_append, List.length_append, ll1]
          rfl
    rintro σ H5 ⟨F, vs0, rfl, s15, nF1, hF5, tx5, lv5⟩
    have btH5 : But a H H5 := bt1.trans (But.of s15)
    have nFH : H F = none := But.free bt1 hb1 nF1
    have nFa : F ≠ a := fun z => by
      rw [z, hb1] at nF1
      cases nF1
    have nFl : F ≠ l := fun z => by
      rw [z, hl] at nF1
      cases nF1
    have hb5 := s15 _ _ hb1
    have hl5 := s15 _ _ hl
    clear s15 s14 hl4 hl3 s13 tx1 ll1
    have zl0 : 0 < zs.length := by omega
    have zl1 : zs.length ≤ 1000 := by omega
    -- bent ones are put behind
    refine ⟨fun σ X => ∃ y3 y4 y5 y6 vs, σ = [some (.ref a), some (.ref l), some (.ref F), y3, y4, y5, y6, none, none] ∧ But a H X ∧ X F = some (.lst vs) ∧ TxAll 20000 vs ∧ vs.length ≤ 200, ?_, ?_⟩
    · refine ⟨4, rfl, by decide, by decide, for_range (lo := 0) (n := Int.toNat 4) (fun i σ X => ∃ y3 y4 y5 y6 vs b', σ = [some (.ref a), some (.ref l), some (.ref F), y3, y4, y5, y6, none, none] ∧ But a H X ∧ X l = some (.lst (zs.map V.str)) ∧ X F = some (.lst vs) ∧ TxAll 20000 vs ∧ vs.length = 31 + 30 * i ∧ X a = some (.lst b') ∧ BoxL (40 + 1000 * i) b')
        ⟨none, none, none, none, vs0, b1, rfl, btH5, hl5, hF5, tx5, lv5, hb5, hB1⟩ ?_ ?_⟩
      · rintro i σ X hi ⟨y3, y4, y5, y6, vs, b2, rfl, btX, hlX, hFX, txX, lvX, hbX, hBX⟩
        have hi : i < 4 := hi
        refine ⟨_, rfl, _, rfl, _, rfl, by show 2 ≤ sizeLine; decide, fun l6 n6 => ?_⟩
        have g6 := same_upd (o := .lst [.int 6, .int 30]) n6
        have n6a : a ≠ l6 := ne_of_none hbX n6
        refine ⟨_, rfl, a, 2, _, b2, rfl, g6 _ _ hbX, hBX, by omega, by decide, by decide, fun r1 b3 h1 h1' hB3 => ?_⟩
        obtain ⟨many, hm0, hm1, hat⟩ : ∃ many : Int, 0 < many ∧ many ≤ 30 ∧ atI [V.int 6, .int 30] r1 = some (.int many) := by
          have hc : r1 = 0 ∨ r1 = 1 := by omega
          rcases hc with rfl | rfl
          · exact ⟨6, by decide, by decide, atI_nat (j := 0) rfl⟩
          · exact ⟨30, by decide, by decide, atI_nat (j := 1) rfl⟩
        refine ⟨l6, _, _, _, rfl, rfl, SqL.of (by rw [upd_ne n6a.symm, upd_same]), hat, ?_⟩
        refine ⟨a, many, _, b3, rfl, upd_same, hB3, by omega, hm0, by omega, fun r2 b4 h2 h2' hB4 => ⟨_, _, rfl, rfl, ?_⟩⟩
        have bX1 : But a X (upd (upd (upd X l6 (.lst [.int 6, .int 30])) a (.lst b3)) a (.lst b4)) := But.upd (But.upd (But.of g6))
        have ha1 : (upd (upd (upd X l6 (.lst [.int 6, .int 30])) a (.lst b3)) a (.lst b4)) a = some (.lst b4) := upd_same
        obtain ⟨X1, e1⟩ : ∃ X1, X1 = upd (upd (upd X l6 (.lst [.int 6, .int 30])) a (.lst b3)) a (.lst b4) := ⟨_, rfl⟩
        rw [← e1] at bX1 ha1 ⊢
        refine ⟨a, l, 1 + r2, 30, _, b4, zs, rfl, by decide, by omega, by omega, ha1, hB4, by omega, SqL.of (bX1 _ _ nla hlX), nla, zl0, zl1, hzs, fun X2 tv td kt b5 bt2 hb5 hB5 htv trt hkt => ?_⟩
        obtain ⟨ln, hsp, hln⟩ := tr_spl trt
        refine ⟨tv, td, ln, rfl, dp_same Nw.sub htv, hsp, by omega, fun X3 s3 => ?_⟩
        have bX3 := bX1.trans (bt2.trans (But.of s3))
        have hb3' := s3 _ _ hb5
        have lln : (SX.S ln).length ≤ 620 := by
          rw [SX.S_len]
          omega
        refine ⟨30, rfl, by decide, by decide, for_range (lo := 0) (n := Int.toNat 30) (fun j σ Y => ∃ y5 y6 vs b', σ = [some (.ref a), some (.ref l), some (.ref F), some (.int (0 + (i : Nat))), some (.str (SX.S ln)), y5, y6, none, none] ∧ But a H Y ∧ Y l = some (.lst (zs.map V.str)) ∧ Y F = some (.lst vs) ∧ TxAll 20000 vs ∧ vs.length = 31 + 30 * i + j ∧ Y a = some (.lst b') ∧ BoxL (40 + 1000 * i + 600 + 10 * j) b')
          ⟨y5, y6, vs, b5, rfl, btX.trans bX3, bX3 _ _ nla hlX, bX3 _ _ nFa hFX, txX, lvX, hb3', hB5.mono (by omega)⟩ ?_ ?_⟩
        · rintro j σ Y hj ⟨y5, y6, vs, b6, rfl, btY, hlY, hFY, txY, lvY, hbY, hBY⟩
          have hj : j < 30 := hj
          refine ⟨_, rfl, _, rfl, a, SX.S ln, _, b6, rfl, hbY, hBY, by omega, by omega, fun Y1 z1 b7 bt1 hb7 hB7 hz1 => ?_⟩
          have hFY1 := bt1 _ _ nFa hFY
          refine ⟨_, rfl, .inl ⟨rfl, _, SqL.of hFY1⟩, ?_⟩
          refine ⟨_, rfl, a, 3, _, b7, rfl, hb7, hB7, by omega, by decide, by decide, fun r3 b8 h3 h3' hB8 => ⟨rfl, _, rfl, ?_⟩⟩
          have bY2 : But a Y1 (upd Y1 a (.lst b8)) := But.upd (But.refl a Y1)
          have ha2 : (upd Y1 a (.lst b8)) a = some (.lst b8) := upd_same
          obtain ⟨Y2, e2⟩ : ∃ Y2, Y2 = upd Y1 a (.lst b8) := ⟨_, rfl⟩
          rw [← e2] at bY2 ha2 ⊢
          have step : ∀ (Z : Hp) (z' : Str) (b9 : List V), But a Y2 Z → Z a = some (.lst b9) → BoxL (40 + 1000 * i + 600 + 10 * j + 9) b9 → z'.length ≤ 20000 → ∃ y5 y6 vs' b', ([some (.ref a), some (.ref l), some (.ref F), some (.int (0 + (i : Nat))), some (.str (SX.S ln)), some (.int (0 + (j : Nat))), some (.str z1), none, none] : L2.St) = [some (.ref a), some (.ref l), some (.ref F), some (.int (0 + (i : Nat))), some (.str (SX.S ln)), y5, y6, none, none] ∧ But a H (upd Z F (.lst (vs ++ [.str z']))) ∧ (upd Z F (.lst (vs ++ [.str z']))) l = some (.lst (zs.map V.str)) ∧ (upd Z F (.lst (vs ++ [.str z']))) F = some (.lst vs') ∧ TxAll 20000 vs' ∧ vs'.length = 31 + 30 * i + (j + 1) ∧ (upd Z F (.lst (vs ++ [.str z']))) a = some (.lst b') ∧ BoxL (40 + 1000 * i + 600 + 10 * (j + 1)) b' :=
            fun Z z' b9 bZ haZ hBZ hz' => by
              have bAll := (btY.trans bt1).trans (bY2.trans bZ)
              refine ⟨_, _, vs ++ [.str z'], b9, rfl, fun c o nc hc => ?_, ?_, upd_same, txa_app txY (txa_cons ⟨_, rfl, hz'⟩ txa_nil), by rw [List.length_append, lvY]; rfl, ?_, hBZ.mono (by omega)⟩
              · rw [upd_ne (ne_of_none hc nFH)]
                exact bAll _ _ nc hc
              · rw [upd_ne nFl.symm]
                exact (bt1.trans (bY2.trans bZ)) _ _ nla hlY
              · rw [upd_ne nFa.symm]
                exact haZ
          by_cases h0 : r3 = 0
          · refine ifT (decide_eq_true (by rw [h0])) ?_
            refine ⟨_, rfl, _, rfl, a, z1, _, b8, rfl, ha2, hB8, by omega, by omega, fun Y3 z2 b9 bt3 hb9 hB9 hz2 => ?_⟩
            have hF3 := bt3 _ _ nFa (bY2 _ _ nFa hFY1)
            refine ⟨F, vs, .str z2, rfl, rfl, hF3, by rw [lvY]; exact small1000 (by omega), ?_⟩
            exact step Y3 z2 b9 bt3 hb9 (hB9.mono (by omega)) (by omega)
          · refine ifF (decide_eq_false (fun y => h0 (V.int.inj y))) ?_
            refine ⟨_, rfl, F, vs, .str z1, rfl, rfl, bY2 _ _ nFa hFY1, by rw [lvY]; exact small1000 (by omega), ?_⟩
            exact step Y2 z1 b8 (But.refl a Y2) ha2 (hB8.mono (by omega)) (by omega)
        · rintro σ Y ⟨y5, y6, vs, b6, rfl, btY, hlY, hFY, txY, lvY, hbY, hBY⟩
          exact ⟨_, _, _, _, vs, b6, rfl, btY, hlY, hFY, txY, by rw [lvY]; show 31 + 30 * i + 30 = _; omega, hbY, hBY.mono (by show 40 + 1000 * i + 600 + 10 * 30 ≤ _; omega)⟩
      · rintro σ X ⟨y3, y4, y5, y6, vs, b2, rfl, btX, hlX, hFX, txX, lvX, hbX, hBX⟩
        exact ⟨_, _, _, _, vs, rfl, btX, hFX, txX, by rw [lvX]; decide⟩
    rintro σ X ⟨y3, y4, y5, y6, vs, rfl, btX, hFX, txX, lvX⟩
    -- each one looked at
    refine ⟨_, rfl, F, rfl, ⟨_, SqL.of hFX⟩, fun D nD => ?_⟩
    refine lc_list (K := K) (a := F) (xs := vs) (fun j H' => Same X H' ∧ ∃ us, H' D = some (.lst us) ∧ TxAll 1200 us ∧ us.length ≤ j) ⟨same_upd nD, [], upd_same, txa_nil, Nat.le_refl _⟩ (fun j H' _ h => SqL.of (h.1 _ _ hFX)) ?_ ?_
    · rintro j v H' hv ⟨sm, us, hD, tu, lu⟩
      obtain ⟨z, rfl, hz⟩ := txX v (List.mem_of_getElem? hv)
      have hj : j < vs.length := (List.getElem?_eq_some_iff.mp hv).1
      refine ⟨rfl, ?_⟩
      refine ⟨_, rfl, z, rfl, Nat.le_trans hz (by decide), _, _, rfl, rfl, _, rfl, ?_⟩
      by_cases h1 : z.length < 1201
      · refine ifT (decide_eq_true (by omega)) ?_
        exact ⟨_, rfl, us, hD, small1000 (by omega), Same.at_ sm nD, us ++ [.str z], upd_same, txa_app tu (txa_cons ⟨z, rfl, by omega⟩ txa_nil), by rw [List.length_append]; show us.length + 1 ≤ j + 1; omega⟩
      · exact ifF (decide_eq_false (by omega)) ⟨sm, us, hD, tu, by omega⟩
    rintro X2 ⟨s2, us, hD, tu, lu⟩
    refine ⟨D, rfl, ⟨_, SqL.of hD⟩, for_list (K := K) (a := D) (xs := us) (fun i σ Y => ∃ y4 y7 y8, σ = [some (.ref a), some (.ref l), some (.ref F), y3, y4, y5, y6, y7, y8] ∧ Same X2 Y) ⟨y4, none, none, rfl, Same.refl _⟩ (fun i σ Y _ ⟨_, _, _, _, h⟩ => SqL.of (h _ _ hD)) ?_ ?_⟩
    · rintro i v σ Y hv ⟨z4, z7, z8, rfl, sY⟩
      obtain ⟨z, rfl, hz⟩ := tu v (List.mem_of_getElem? hv)
      have ez : z = SX.S z.cps.toList := (SX.S_tl z).symm
      obtain ⟨cs, ecs⟩ : ∃ cs, cs = z.cps.toList := ⟨_, rfl⟩
      rw [← ecs] at ez
      subst ez
      have hcs : cs.length ≤ 5000 := by
        rw [SX.S_len] at hz
        omega
      have ta := tree_auto cs
      refine ⟨_, rfl, cs, rfl, hcs, fun Y1 s1 => ?_⟩
      refine ⟨_, rfl, cs, rfl, hcs, fun Y2 s2 => ⟨_, _, rfl, ?_⟩⟩
      rw [ta]
      unfold toldV
      cases treeR cs with
      | ok t j r =>
        refine ⟨_, rfl, rfl, _, rfl, ifT (show decide (V.non = V.non) = true from by decide +kernel) ?_⟩
        refine ⟨_, rfl, _, rfl, rfl, _, rfl, ifF (by rw [decide_eq_true rfl]; rfl) ?_⟩
        refine ⟨_, rfl, rfl, _, rfl, ifF (show (!decide (V.non = V.non)) = false from by decide +kernel) ?_⟩
        exact ⟨_, _, _, rfl, sY.trans (s1.trans s2)⟩
      | bad p =>
        refine ⟨_, rfl, rfl, _, rfl, ifF (decide_eq_false (fun y => nomatch y)) ?_⟩
        refine ⟨_, rfl, rfl, _, rfl, ifT (by rw [decide_eq_false (fun y => nomatch y)]; rfl) ?_⟩
        refine ⟨_, rfl, .int (p : Nat), .ty "int", .type "int", .type "int", true, rfl, .ty "int", .base (.int _), kit_ty (by decide +kernel), _, rfl, iteF ?_⟩
        refine ⟨_, rfl, _, rfl, rfl, _, rfl, ifF (by show (!decide (V.int (p : Nat) = V.int (p : Nat))) = false; rw [decide_eq_true rfl]; rfl) ?_⟩
        exact ⟨_, _, _, rfl, sY.trans (s1.trans s2)⟩
    · rintro σ Y ⟨z4, z7, z8, rfl, sY⟩
      exact q _ (btX.trans (But.of (s2.trans sY)))
end
section
variable {P : Program} {w : World} {K : PySem.W.Frag} {mg : Str → Option Value} {base : Heap}
theorem allTrue (n : Nat) : (List.replicate n true).all id = true := by
  rw [List.all_eq_true]
  intro x hx
  rw [List.eq_of_mem_replicate hx]
  rfl
theorem ok_law9 (T : Ri9 mg) (c_law_folded : C8.Cal P w K mg base 1 "_law_folded" (spFold K) []) (c_law_dip : C8.Cal P w K mg base 1 "_law_dip" (spDip K) []) (c_law_right : C8.Cal P w K mg base 68 "_law_right" spRight9 [])
    {f : Addr} {fd : FuncData} (F : L2.Fun K "law" "law" s_law f fd) : FnOk P w K mg base CX0 69 f fd ["_law_script"] (spLaw K) := by
  refine F.ok sc_law (fun vs H Q E h => ?_) (fun cdv A outer s H vs Q E hr h => ?_)
  · obtain ⟨a, ns, rfl, _⟩ := h
    rfl
  · obtain ⟨a, ns, rfl, hS, hlen, q⟩ := h
    refine ⟨_, (pss_cons (ps_set (i := 1) sc_law.nd rfl (Or.inr rfl) (C8.pe_c c_law_folded hr (by decide) (by rfl) (pa_cons (pv 0) (pa_cons pe_int pa_nil))))
        (pss_one (ps_ret (pe_callB (cr_all rfl) (by rfl) T.all (by decide +kernel) (pa_cons (pe_lc (own := [("_law_k", 2)]) (by exact rfl) sc_law.nd (pi_range1 rfl T.range (pa_cons (pe_callB (call_max2 rfl) (by rfl) T.max (by decide +kernel) (pa_cons pe_int (pa_cons (pe_callB call_len_seq (by rfl) T.len PySem.boot_len (pa_cons (pv 1) pa_nil)) pa_nil))) pa_nil)) (blkOk_by (own := [("_law_k", 2)]) (N := N_law) (sc := defScope s_law) (by decide +kernel)) (fun _ _ _ _ _ => (pg_name (i := 2) sc_law.nd rfl (Or.inl rfl))) (fun _ _ _ _ _ => pts_nil) (fun _ _ _ _ _ => (C8.pe_c c_law_right hr (by decide) (by rfl) (pa_cons (C8.pe_c c_law_dip hr (by decide) (by rfl) (pa_cons (pv 1) (pa_cons (pv 2) pa_nil))) pa_nil)))) pa_nil))))), ?_⟩
    refine ⟨_, rfl, a, 3, ns, rfl, hS, hlen, by decide, by decide, fun H0 cp ms s1 ncp hcp hml => ?_⟩
    refine ⟨_, rfl, cp, _, rfl, .inl (SqL.of hcp), _, _, rfl, _, rfl, ?_, ?_, fun D nD => ?_⟩
    · rw [List.length_map]
      split <;> omega
    · rw [List.length_map]
      split <;> omega
    have nDc : cp ≠ D := ne_of_none hcp nD
    rw [List.length_map]
    refine lc_range (lo := 0) (fun j H' => H' cp = some (.lst (ms.map V.int)) ∧ H' D = some (.lst ((List.replicate j true).map V.bl))) ⟨same_upd nD _ _ hcp, upd_same⟩ ?_ ?_
    · rintro j H' hj ⟨h1, h2⟩
      rw [Int.zero_add]
      have hj4 : j < 4 := by
        split at hj <;> omega
      refine ⟨rfl, yesT ?_⟩
      refine ⟨_, rfl, _, rfl, cp, j, ms, rfl, SqL.of h1, by omega, fun p b np hB => ?_⟩
      have npc : cp ≠ p := ne_of_none h1 np
      have npD : D ≠ p := ne_of_none h2 np
      refine ⟨p, b, rfl, upd_same, hB, fun H2 bt => ?_⟩
      have g1 := bt _ _ npc (same_upd np _ _ h1)
      have g2 := bt _ _ npD (same_upd np _ _ h2)
      refine ⟨_, g2, by rw [List.length_map, List.length_replicate]; exact small1000 (by omega), by rw [upd_ne nDc]; exact g1, ?_⟩
      rw [upd_same, List.replicate_succ', List.map_append]
      rfl
    · rintro H' ⟨h1, h2⟩
      refine ⟨D, _, rfl, SqL.of h2, ?_⟩
      rw [allTrue]
      exact q _
end
section
variable {w : World} {K : PySem.W.Frag} {h : Heap} {mg : Str → Option Value}
theorem fun_dd {x : Str} {st : Stmt} {ps : List Str} {f : Addr} {oc : Value} {od an : Option Addr} {osl : Array (Option Value)} {kV doc pm cdv ct : Value} (X : K.In h) (G : h.Ns mainGlobals mg) (a : PySem.W.nsIn K mainGlobals x = some (some (.ref f)))
    (l : K.lookup f = some ⟨oc, od, .func (PySem.W.fnOf x x (defArgs st) (defBody st) (defScope st) .none kV doc pm an cdv ct), osl⟩) (c : PySem.W.codeIn K cdv x = true) (k : PySem.W.keepIn K (.ref f) = true)
    (hb : ∀ (kV doc pm : Value) (an : Option Addr) (cdv ct : Value) (us : List Value), us.length = ps.length → bindArgs (PySem.W.fnOf x x (defArgs st) (defBody st) (defScope st) .none kV doc pm an cdv ct) ⟨us, []⟩ = pure (ps.zip us)) : Dd K mg x st ps :=
  ⟨f, _, fun_mk (st := st) l c k, PySem.W.mg_of X G a, (fun_mk (st := st) l c k).binds hb⟩
end
section
variable {w : World} {K : PySem.W.Frag} {h : Heap} {mg : Str → Option Value}
theorem fun_oxd {x qual : Str} {st : Stmt} {ps : List Str} {B newId : String} {C f N : Addr} {oc : Value} {od an : Option Addr} {osl : Array (Option Value)} {kV doc pm cdv ct : Value} {nm q : Str} {bs bm : List Value} {sn : List Str} {sub : List Value} {ab : Bool} {col : Option Bool} {dd : Option Addr} {k0 k1 k2 k3 k5 : Option Value}
    (X : K.In h) (G : h.Ns mainGlobals mg) (a : PySem.W.nsIn K mainGlobals x = some (some (.ref C))) (lC : K.lookup C = some (excClassObj nm q C N bs bm true sn sub ab col dd k0 k1 k2 k3 k5 newId)) (Nw : PySem.Oxb.NewOk newId bm) (FB : PySem.Oxb.InitOk B bm) (M : PySem.Oxb.MroOk (.ref C :: bm))
    (sa : PySem.W.findIn K (.ref C) "__setattr__" = some (some (.builtin "object.__setattr__"))) (exC : PySem.W.subIn K (.ref C) (.type "BaseException") = some true) (tyC : PySem.W.typeIn K (.ref C) = some (.type "type")) (kC : PySem.W.keepIn K (.ref C) = true)
    (iC : PySem.W.findIn K (.ref C) "__init__" = some (some (.ref f))) (tI : PySem.W.typeIn K (.ref f) = some (.type "function"))
    (l : K.lookup f = some ⟨oc, od, .func (PySem.W.fnOf "__init__" qual (defArgs st) (defBody st) (defScope st) .none kV doc pm an cdv ct), osl⟩) (c : PySem.W.codeIn K cdv qual = true) (k : PySem.W.keepIn K (.ref f) = true)
    (hb : ∀ (kV doc pm : Value) (an : Option Addr) (cdv ct : Value) (us : List Value), us.length = ps.length → bindArgs (PySem.W.fnOf "__init__" qual (defArgs st) (defBody st) (defScope st) .none kV doc pm an cdv ct) ⟨us, []⟩ = pure (ps.zip us)) : OxD K mg C B x qual st ps where
  ex := ⟨f, _, fun_mk (st := st) l c k, (fun_mk (st := st) l c k).binds hb, iC, tI⟩
  ox := ⟨⟨nm, q, N, bs, bm, sn, sub, ab, col, dd, k0, k1, k2, k3, k5, newId, lC, Nw, FB, M⟩, sa, exC, tyC, kC⟩
  mg := PySem.W.mg_of X G a
theorem cls_some {D : Addr} (hd : PySem.W.hasDictIn K D = true) : (PySem.W.clsIn K D).isSome = true := by
  obtain ⟨cd, e1, _⟩ := PySem.W.any_some hd
  rw [e1]
  rfl
theorem kit_cls {t : Value} {D : Addr} {b : Bool} (hd : PySem.W.hasDictIn K D = true) (ht : PySem.W.typeIn K (.ref D) = some (.type "type")) (hs : PySem.W.subIn K t (.ref D) = some b) : PySem.W.kitCls K t (.ref D) = some b := by
  show (if ((PySem.W.clsIn K D).isSome && PySem.W.typeIn K (.ref D) == some (.type "type")) = true then PySem.W.subIn K t (.ref D) else none) = some b
  rw [cls_some hd, ht, hs]
  rfl
theorem kit_other {C D : Addr} {b : Bool} (n : (Value.ref C == Value.ref D) = false) (hd : PySem.W.hasDictIn K D = true) (ht : PySem.W.typeIn K (.ref D) = some (.type "type")) (hs : PySem.W.subIn K (.ref C) (.ref D) = some b) : PySem.W.kitOne K (.ref C) (.ref D) = some b := by
  unfold PySem.W.kitOne
  rw [n]
  exact kit_cls hd ht hs
theorem kit_base {C : Addr} {T : String} {b : Bool} (m : PySem.W.kitMeta T = true) (hs : PySem.W.subIn K (.ref C) (.type T) = some b) : PySem.W.kitOne K (.ref C) (.type T) = some b := by
  have n : (Value.ref C == Value.type T) = false := rfl
  unfold PySem.W.kitOne
  rw [n]
  show (if PySem.W.kitMeta T = true then PySem.W.subIn K (.ref C) (.type T) else none) = some b
  rw [if_pos m, hs]
theorem exm_own {t : Value} {D : Addr} {b : Bool} (hB : PySem.W.subIn K (.ref D) (.type "BaseException") = some true) (hd : PySem.W.hasDictIn K D = true) (ht : PySem.W.typeIn K (.ref D) = some (.type "type")) (hs : PySem.W.subIn K t (.ref D) = some b) : PySem.W.exmOne K t (.ref D) = some b := by
  unfold PySem.W.exmOne
  rw [hB]
  exact kit_cls hd ht hs
end
theorem all_mk {l : PySem.W.OpenLaw} {w : World} {K : PySem.W.Frag} {h : Heap} {mg : Str → Option Value} {fa C Y1 Y2 Y3 Y4 Y5 Y6 f4 : Addr} (X : K.In h) (G : h.Ns mainGlobals mg) (hfa : mg "law" = some (.ref fa))
    (N : OxD K mg C "ValueError" "BadText" "BadText.__init__" s_BadText N_BadText) (bV : PySem.W.findCls K (.type "ValueError") (.type "type") "__init__" = some (.val (.builtin "ValueError.__init__")))
    (aY1 : PySem.W.nsIn K mainGlobals "BadGrammar" = some (some (.ref Y1))) (aY2 : PySem.W.nsIn K mainGlobals "BadRow" = some (some (.ref Y2))) (aY3 : PySem.W.nsIn K mainGlobals "NoCap" = some (some (.ref Y3))) (aY4 : PySem.W.nsIn K mainGlobals "NoGiven" = some (some (.ref Y4))) (aY5 : PySem.W.nsIn K mainGlobals "NotLet" = some (some (.ref Y5))) (aY6 : PySem.W.nsIn K mainGlobals "NoTree" = some (some (.ref Y6)))
    (e1 : PySem.W.exmOne K (.ref C) (.ref C) = some true) (e2 : XvC K C) (e3 : PySem.W.findIn K (.ref C) "at" = some none) (e5 : PySem.W.kitAny K (.ref C) [.ref Y1, .ref Y2, .ref Y3, .ref Y4, .ref Y5, .ref Y6] = some false) (e6 : PySem.W.kitOne K (.ref C) (.type "ValueError") = some true)
    {t1 t2 t3 t4 t5 : Tok} (a1 : PySem.W.nsIn K mainGlobals "SIGNS" = some (some (.int 6 t1))) (a2 : PySem.W.nsIn K mainGlobals "LETTERS" = some (some (.str LETS t2))) (a3 : PySem.W.nsIn K mainGlobals "FIGURES" = some (some (.str FIGS t3))) (a5 : PySem.W.nsIn K mainGlobals "PLACES" = some (some (.int 30 t4))) (a6 : PySem.W.nsIn K mainGlobals "MOST_PARTS" = some (some (.int 2 t5)))
    (z0 : PySem.W.nsIn K mainGlobals "len" = some none) (z1 : PySem.W.nsIn K mainGlobals "abs" = some none) (z2 : PySem.W.nsIn K mainGlobals "int" = some none) (z3 : PySem.W.nsIn K mainGlobals "list" = some none) (z4 : PySem.W.nsIn K mainGlobals "enumerate" = some none) (z5 : PySem.W.nsIn K mainGlobals "range" = some none) (z6 : PySem.W.nsIn K mainGlobals "isinstance" = some none) (z7 : PySem.W.nsIn K mainGlobals "bool" = some none) (z8 : PySem.W.nsIn K mainGlobals "all" = some none) (z9 : PySem.W.nsIn K mainGlobals "tuple" = some none) (z10 : PySem.W.nsIn K mainGlobals "str" = some none) (z11 : PySem.W.nsIn K mainGlobals "max" = some none) (z12 : PySem.W.nsIn K mainGlobals "min" = some none) (z13 : PySem.W.nsIn K mainGlobals "ValueError" = some none)
    (D0 : Dd K mg "own_copy" s_own_copy P_own_copy) (D1 : Dd K mg "is_name" s_is_name P_is_name) (D2 : Dd K mg "behind_signs" s_behind_signs P_behind_signs) (D3 : Dd K mg "name_from" s_name_from P_name_from) (D4 : Dd K mg "own_from" s_own_from P_own_from) (D5 : Dd K mg "parts_from" s_parts_from P_parts_from) (D6 : Dd K mg "node_from" s_node_from P_node_from) (D7 : Dd K mg "tree_in" s_tree_in P_tree_in) (D8 : Dd K mg "_law_take" s__law_take P__law_take) (D9 : Dd K mg "_law_dip" s__law_dip P__law_dip) (D10 : Dd K mg "_law_folded" s__law_folded P__law_folded) (D11 : Dd K mg "_law_one_of" s__law_one_of P__law_one_of) (D12 : Dd K mg "_law_named" s__law_named P__law_named) (D13 : Dd K mg "_law_number" s__law_number P__law_number) (D14 : Dd K mg "_law_wild" s__law_wild P__law_wild) (D15 : Dd K mg "_law_spelled" s__law_spelled P__law_spelled) (D16 : Dd K mg "_law_bad_at" s__law_bad_at P__law_bad_at) (D17 : Dd K mg "_law_bent" s__law_bent P__law_bent) (D18 : Dd K mg "_law_told" s__law_told P__law_told) (D19 : Dd K mg "_law_right" s__law_right P__law_right)
    {od4 an4 : Option Addr} {sl4 : Array (Option Value)} {oc4 kV4 dc4 pm4 cd4 ct4 : Value}
    (a4 : PySem.W.nsIn K mainGlobals "law" = some (some (.ref f4))) (l4 : K.lookup f4 = some ⟨oc4, od4, .func (PySem.W.fnOf "law" "law" (defArgs s_law) (defBody s_law) (defScope s_law) .none kV4 dc4 pm4 an4 cd4 ct4), sl4⟩) (c4 : PySem.W.codeIn K cd4 "law" = true) (k4 : PySem.W.keepIn K (.ref f4) = true) :
    ∃ fd : FuncData, (∀ (s : Shared) (v : Value), BindsTo s fd ⟨[v], []⟩ [("_law_script", v)]) ∧ ∀ base : Heap, K.In base → base.Ns mainGlobals mg → FnOk l.prog w K mg base CX0 69 fa fd ["_law_script"] (spLaw K) := by
  have e := hfa.symm.trans (PySem.W.mg_of X G a4)
  cases e
  have F4 := fun_mk (st := s_law) l4 c4 k4
  have m0 := PySem.W.mg_none_of X G z0
  have m1 := PySem.W.mg_none_of X G z1
  have m2 := PySem.W.mg_none_of X G z2
  have m3 := PySem.W.mg_none_of X G z3
  have m4 := PySem.W.mg_none_of X G z4
  have m5 := PySem.W.mg_none_of X G z5
  have m6 := PySem.W.mg_none_of X G z6
  have m7 := PySem.W.mg_none_of X G z7
  have m8 := PySem.W.mg_none_of X G z8
  have m9 := PySem.W.mg_none_of X G z9
  have m10 := PySem.W.mg_none_of X G z10
  have m11 := PySem.W.mg_none_of X G z11
  have m12 := PySem.W.mg_none_of X G z12
  have m13 := PySem.W.mg_none_of X G z13
  have TB : Bt mg := ⟨m0, m1, m2, m3, m4, m5⟩
  have TO : Ot mg := ⟨m6, m3, m9⟩
  have TW : Wl mg := ⟨m5, m12, m9⟩
  have TX : Tx mg := ⟨m0, m2, m10, m6, m8, m9⟩
  have TT : To9 mg := ⟨m6, m7, m13⟩
  have TE : Be mg := ⟨m0, m11, m2⟩
  have TR : Ri9 mg := ⟨m5, m0, m6, m2, m8, m11⟩
  have TG : Gl9 mg := ⟨⟨_, PySem.W.mg_of X G a1, ⟨_, rfl⟩⟩, ⟨_, PySem.W.mg_of X G a2, ⟨_, rfl⟩⟩, ⟨_, PySem.W.mg_of X G a3, ⟨_, rfl⟩⟩, ⟨_, PySem.W.mg_of X G a5, ⟨_, rfl⟩⟩, ⟨_, PySem.W.mg_of X G a6, ⟨_, rfl⟩⟩⟩
  have NN : Nb K mg C Y1 Y2 Y3 Y4 Y5 Y6 := ⟨N.mg, PySem.W.mg_of X G aY1, PySem.W.mg_of X G aY2, PySem.W.mg_of X G aY3, PySem.W.mg_of X G aY4, PySem.W.mg_of X G aY5, PySem.W.mg_of X G aY6, e1, e2, e3, e5, e6⟩
  have bI : BInit K "ValueError" := ⟨by decide +kernel, rfl, by decide +kernel, bV, rfl, by decide +kernel, by decide +kernel⟩
  refine ⟨PySem.W.fnOf "law" "law" (defArgs s_law) (defBody s_law) (defScope s_law) .none kV4 dc4 pm4 an4 cd4 ct4, fun s v => .of_eq rfl, fun base _ _ => ?_⟩
  have cw := ok_ownD (P := l.prog) (w := w) (base := base) TO D0 0
  have ct := ok_take (P := l.prog) (w := w) (base := base) D8
  have co := ok_one_of TB ct D11
  have nl : ∀ f fd, L2.Fun K "__init__" "BadText.__init__" s_BadText f fd → FnOk l.prog w K mg base CX0 2 f fd N_BadText (spOneD K C "at" 0) := fun f fd F => ok_BadText cw F N.ox bI m13 e3
  have cb := ok_behind (P := l.prog) (w := w) (K := K) (base := base) TX TG D2
  have cn := ok_name_from TG cb (ok_is_name (P := l.prog) (w := w) (base := base) TX TG D1) N nl D3
  have cf := ok_own_from TX TG cb N nl D4
  have ci := ok_tree_in TX (ok_nodes TX TG cn cf N nl D6 D5 30) N nl D7
  have cs := ok_spelled (P := l.prog) (w := w) (K := K) (base := base) TX D15 31 (by decide)
  exact ok_law9 TR (ok_folded TB D10) (ok_dip TB D9) (ok_right9 TR ct (ok_named TB ct D12) (ok_wild TW ct co (ok_number ct D13) D14 30) cs (ok_bent9 TE ct D17) (ok_bad_at TB D16) (ok_told9 TT NN ci cs D18) D19) F4
end Thr
open PySem PySem.W PyProof.Rows
set_option maxRecDepth 100000 in
set_option maxHeartbeats 0 in
theorem PySem.Challenge.cw_threereckons_k19_texts_of_trees_spoilt_holds : PySem.Challenge.rw_threereckons_k19_texts_of_trees_spoilt.Holds := by
  w_on; o_law; k_head; (case hw => w_witness2)
  k_fill
  refine L2.walk_of (l := PySem.Challenge.rw_threereckons_k19_texts_of_trees_spoilt) (n := 63) (k := 69) (x := "_law_script") (CX := fun _ => L2.CX0) (sp := fun w => Thr.spLaw _) rfl (by decide) rfl ⟨rfl, by decide, by decide⟩ (fun w h Y => PySem.W.kIn_of Y) ?F (fun _ _ a ns hl _ hS => ⟨a, ns, rfl, hS, hl, fun _ => rfl⟩) (fun _ _ _ _ _ h => h)
  case F =>
    intro w mg fa h KX G hmg
    refine' Thr.all_mk KX G hmg
      (Thr.fun_oxd (newId := "ValueError.__new__") (bm := [.type "ValueError", .type "Exception", .type "BaseException", .type "object"]) KX G ?o1 ?o2 Thr.new_VE Thr.init_VE (Thr.mro_VE _) ?o3 ?o4 ?o5 ?o6 ?o7 ?o8 ?o9 ?o10 ?o11 ?o12) ?bV ?aY1 ?aY2 ?aY3 ?aY4 ?aY5 ?aY6
      (Thr.exm_own ?e1a ?e1b ?e1c ?e1d) ⟨?v1, ?v2, ?v3, ?v4, ?v5, ?v6, ?v7, ?v8⟩ ?e3 (L2.kitAny_cons (b := false) (Thr.kit_other ?qa1 ?qb1 ?qc1 ?qd1) (fun _ => (L2.kitAny_cons (b := false) (Thr.kit_other ?qa2 ?qb2 ?qc2 ?qd2) (fun _ => (L2.kitAny_cons (b := false) (Thr.kit_other ?qa3 ?qb3 ?qc3 ?qd3) (fun _ => (L2.kitAny_cons (b := false) (Thr.kit_other ?qa4 ?qb4 ?qc4 ?qd4) (fun _ => (L2.kitAny_cons (b := false) (Thr.kit_other ?qa5 ?qb5 ?qc5 ?qd5) (fun _ => (L2.kitAny_cons (b := false) (Thr.kit_other ?qa6 ?qb6 ?qc6 ?qd6) (fun _ => L2.kitAny_nil) (fun e => nomatch e))) (fun e => nomatch e))) (fun e => nomatch e))) (fun e => nomatch e))) (fun e => nomatch e))) (fun e => nomatch e)) (Thr.kit_base ?e6a ?e6b)
      ?g1 ?g2 ?g3 ?g5 ?g6
      ?z0 ?z1 ?z2 ?z3 ?z4 ?z5 ?z6 ?z7 ?z8 ?z9 ?z10 ?z11 ?z12 ?z13
      (Thr.fun_dd KX G ?x0 ?w0 ?u0 ?t0 ?s0)
      (Thr.fun_dd KX G ?x1 ?w1 ?u1 ?t1 ?s1)
      (Thr.fun_dd KX G ?x2 ?w2 ?u2 ?t2 ?s2)
      (Thr.fun_dd KX G ?x3 ?w3 ?u3 ?t3 ?s3)
      (Thr.fun_dd KX G ?x4 ?w4 ?u4 ?t4 ?s4)
      (Thr.fun_dd KX G ?x5 ?w5 ?u5 ?t5 ?s5)
      (Thr.fun_dd KX G ?x6 ?w6 ?u6 ?t6 ?s6)
      (Thr.fun_dd KX G ?x7 ?w7 ?u7 ?t7 ?s7)
      (Thr.fun_dd KX G ?x8 ?w8 ?u8 ?t8 ?s8)
      (Thr.fun_dd KX G ?x9 ?w9 ?u9 ?t9 ?s9)
      (Thr.fun_dd KX G ?x10 ?w10 ?u10 ?t10 ?s10)
      (Thr.fun_dd KX G ?x11 ?w11 ?u11 ?t11 ?s11)
      (Thr.fun_dd KX G ?x12 ?w12 ?u12 ?t12 ?s12)
      (Thr.fun_dd KX G ?x13 ?w13 ?u13 ?t13 ?s13)
      (Thr.fun_dd KX G ?x14 ?w14 ?u14 ?t14 ?s14)
      (Thr.fun_dd KX G ?x15 ?w15 ?u15 ?t15 ?s15)
      (Thr.fun_dd KX G ?x16 ?w16 ?u16 ?t16 ?s16)
      (Thr.fun_dd KX G ?x17 ?w17 ?u17 ?t17 ?s17)
      (Thr.fun_dd KX G ?x18 ?w18 ?u18 ?t18 ?s18)
      (Thr.fun_dd KX G ?x19 ?w19 ?u19 ?t19 ?s19)
      ?a4 ?l4 ?c4 ?k4
    (case o1 => k_is)
    (case o2 => k_is)
    (case o3 => k_is)
    (case o4 => k_is)
    (case o5 => k_is)
    (case o6 => k_is)
    (case o7 => k_is)
    (case o8 => k_is)
    (case o9 => k_is)
    (case o10 => k_is)
    (case o11 => k_is)
    (case o12 => exact fun _ _ _ _ _ _ us hl => match us, hl with | [_, _], _ => rfl)
    (case bV => k_is)
    (case aY1 => k_is)
    (case aY2 => k_is)
    (case aY3 => k_is)
    (case aY4 => k_is)
    (case aY5 => k_is)
    (case aY6 => k_is)
    (case e1a => k_is)
    (case e1b => k_is)
    (case e1c => k_is)
    (case e1d => k_is)
    (case v1 => k_is)
    (case v2 => k_is)
    (case v3 => k_is)
    (case v4 => k_is)
    (case v5 => k_is)
    (case v6 => k_is)
    (case v7 => k_is)
    (case v8 => k_is)
    (case e3 => k_is)
    (case qa1 => rfl)
    (case qb1 => k_is)
    (case qc1 => k_is)
    (case qd1 => k_is)
    (case qa2 => rfl)
    (case qb2 => k_is)
    (case qc2 => k_is)
    (case qd2 => k_is)
    (case qa3 => rfl)
    (case qb3 => k_is)
    (case qc3 => k_is)
    (case qd3 => k_is)
    (case qa4 => rfl)
    (case qb4 => k_is)
    (case qc4 => k_is)
    (case qd4 => k_is)
    (case qa5 => rfl)
    (case qb5 => k_is)
    (case qc5 => k_is)
    (case qd5 => k_is)
    (case qa6 => rfl)
    (case qb6 => k_is)
    (case qc6 => k_is)
    (case qd6 => k_is)
    (case e6a => decide +kernel)
    (case e6b => k_is)
    (case g1 => k_is)
    (case g2 => k_is)
    (case g3 => k_is)
    (case g5 => k_is)
    (case g6 => k_is)
    (case z0 => k_is)
    (case z1 => k_is)
    (case z2 => k_is)
    (case z3 => k_is)
    (case z4 => k_is)
    (case z5 => k_is)
    (case z6 => k_is)
    (case z7 => k_is)
    (case z8 => k_is)
    (case z9 => k_is)
    (case z10 => k_is)
    (case z11 => k_is)
    (case z12 => k_is)
    (case z13 => k_is)
    (case x0 => k_is)
    (case w0 => k_is)
    (case u0 => k_is)
    (case t0 => k_is)
    (case s0 => exact fun _ _ _ _ _ _ us hl => match us, hl with | [_], _ => rfl)
    (case x1 => k_is)
    (case w1 => k_is)
    (case u1 => k_is)
    (case t1 => k_is)
    (case s1 => exact fun _ _ _ _ _ _ us hl => match us, hl with | [_], _ => rfl)
    (case x2 => k_is)
    (case w2 => k_is)
    (case u2 => k_is)
    (case t2 => k_is)
    (case s2 => exact fun _ _ _ _ _ _ us hl => match us, hl with | [_, _, _], _ => rfl)
    (case x3 => k_is)
    (case w3 => k_is)
    (case u3 => k_is)
    (case t3 => k_is)
    (case s3 => exact fun _ _ _ _ _ _ us hl => match us, hl with | [_, _], _ => rfl)
    (case x4 => k_is)
    (case w4 => k_is)
    (case u4 => k_is)
    (case t4 => k_is)
    (case s4 => exact fun _ _ _ _ _ _ us hl => match us, hl with | [_, _], _ => rfl)
    (case x5 => k_is)
    (case w5 => k_is)
    (case u5 => k_is)
    (case t5 => k_is)
    (case s5 => exact fun _ _ _ _ _ _ us hl => match us, hl with | [_, _, _], _ => rfl)
    (case x6 => k_is)
    (case w6 => k_is)
    (case u6 => k_is)
    (case t6 => k_is)
    (case s6 => exact fun _ _ _ _ _ _ us hl => match us, hl with | [_, _, _], _ => rfl)
    (case x7 => k_is)
    (case w7 => k_is)
    (case u7 => k_is)
    (case t7 => k_is)
    (case s7 => exact fun _ _ _ _ _ _ us hl => match us, hl with | [_], _ => rfl)
    (case x8 => k_is)
    (case w8 => k_is)
    (case u8 => k_is)
    (case t8 => k_is)
    (case s8 => exact fun _ _ _ _ _ _ us hl => match us, hl with | [_, _], _ => rfl)
    (case x9 => k_is)
    (case w9 => k_is)
    (case u9 => k_is)
    (case t9 => k_is)
    (case s9 => exact fun _ _ _ _ _ _ us hl => match us, hl with | [_, _], _ => rfl)
    (case x10 => k_is)
    (case w10 => k_is)
    (case u10 => k_is)
    (case t10 => k_is)
    (case s10 => exact fun _ _ _ _ _ _ us hl => match us, hl with | [_, _], _ => rfl)
    (case x11 => k_is)
    (case w11 => k_is)
    (case u11 => k_is)
    (case t11 => k_is)
    (case s11 => exact fun _ _ _ _ _ _ us hl => match us, hl with | [_, _], _ => rfl)
    (case x12 => k_is)
    (case w12 => k_is)
    (case u12 => k_is)
    (case t12 => k_is)
    (case s12 => exact fun _ _ _ _ _ _ us hl => match us, hl with | [_, _], _ => rfl)
    (case x13 => k_is)
    (case w13 => k_is)
    (case u13 => k_is)
    (case t13 => k_is)
    (case s13 => exact fun _ _ _ _ _ _ us hl => match us, hl with | [_], _ => rfl)
    (case x14 => k_is)
    (case w14 => k_is)
    (case u14 => k_is)
    (case t14 => k_is)
    (case s14 => exact fun _ _ _ _ _ _ us hl => match us, hl with | [_, _, _, _], _ => rfl)
    (case x15 => k_is)
    (case w15 => k_is)
    (case u15 => k_is)
    (case t15 => k_is)
    (case s15 => exact fun _ _ _ _ _ _ us hl => match us, hl with | [_], _ => rfl)
    (case x16 => k_is)
    (case w16 => k_is)
    (case u16 => k_is)
    (case t16 => k_is)
    (case s16 => exact fun _ _ _ _ _ _ us hl => match us, hl with | [_], _ => rfl)
    (case x17 => k_is)
    (case w17 => k_is)
    (case u17 => k_is)
    (case t17 => k_is)
    (case s17 => exact fun _ _ _ _ _ _ us hl => match us, hl with | [_, _], _ => rfl)
    (case x18 => k_is)
    (case w18 => k_is)
    (case u18 => k_is)
    (case t18 => k_is)
    (case s18 => exact fun _ _ _ _ _ _ us hl => match us, hl with | [_], _ => rfl)
    (case x19 => k_is)
    (case w19 => k_is)
    (case u19 => k_is)
    (case t19 => k_is)
    (case s19 => exact fun _ _ _ _ _ _ us hl => match us, hl with | [_], _ => rfl)
    (case a4 => k_is)
    (case l4 => k_is)
    (case c4 => k_is)
    (case k4 => k_is)
