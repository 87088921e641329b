import PyProof.Rows.All
import Wide.All
import OpenK.AllK
import Wide.FinOn
import HandS.ForMost
import HandS.Walk
import HandS.Codes
import HandS.IsInst
import HandS.Defaults
import HandS.Star
import HandS.Flow
import HandS.Style
import HandS.CallLocal
import HandS.More
import HandS.ForExc
import HandS.ExcInit
import HandS.ExcIs
import HandS.ExcField
import KE.KExcIs
import KE.KExcInit
import HandS.Zip
import PySem.Challenge.RW_threereckons_k05_errors_and_limits
set_option Elab.async false
set_option linter.all false
set_option maxRecDepth 100000
set_option maxHeartbeats 4000000
namespace Thr
open PySem PySem.Spec PyProof.Rows L2
/-! ### heaps -/
theorem same_upd {H : Hp} {p : Addr} {o : HO} (h : H p = none) : Same H (upd H p o) := fun b x e => by
  rw [upd_ne (ne_of_none e h)]
  exact e
/-- all but what stands at a -/
def But (a : Addr) (H H' : Hp) : Prop := ∀ b o, b ≠ a → H b = some o → H' b = some o
theorem But.refl (a : Addr) (H : Hp) : But a H H := fun _ _ _ h => h
theorem But.trans {a : Addr} {H H1 H2 : Hp} (x : But a H H1) (y : But a H1 H2) : But a H H2 := fun b o n h => y b o n (x b o n h)
theorem But.of {a : Addr} {H H' : Hp} (s : Same H H') : But a H H' := fun b o _ h => s b o h
theorem But.upd {a : Addr} {H H' : Hp} {o : HO} (x : But a H H') : But a H (upd H' a o) := fun b u n h => by
  rw [upd_ne n]
  exact x b u n h
theorem But.new {a p : Addr} {H H' : Hp} {o : HO} (x : But a H H') (h : H' p = none) : But a H (L2.upd H' p o) := fun b u n e => by
  have e' := x b u n e
  rw [upd_ne (ne_of_none e' h)]
  exact e'
theorem But.seq {K : PySem.W.Frag} {H H' : Hp} {a b : Addr} {xs : List V} (e : But a H H') (n : b ≠ a) (h : SqL K H b xs) : SqL K H' b xs := by
  rcases h with (h | ⟨o, h⟩) | h
  · exact .inl (.inl (e _ _ n h))
  · exact .inl (.inr ⟨o, e _ _ n h⟩)
  · exact .inr h
/-! ### a def of the top, under its name -/
structure Dd (K : PySem.W.Frag) (mg : Str → Option Value) (x : Str) (st : Stmt) (ps : List Str) : Prop where
  ex : ∃ (f : Addr) (fd : FuncData), L2.Fun K x x st f fd ∧ mg x = some (.ref f) ∧ Binds K fd ps []
section
variable {P : Program} {w : World} {K : PySem.W.Frag} {mg : Str → Option Value} {base : Heap}
theorem Dd.cal {x : Str} {st : Stmt} {N ps : List Str} {k : Nat} {sp : Sp} (D : Dd K mg x st ps) (S : FnScope N ps (defScope st)) (len : ∀ vs H Q E, sp vs H Q E → vs.length = ps.length)
    (hbody : ∀ (f : Addr) (cdv : Value) (A : Around) (outer : List Env) (s : Shared) (H : Hp) (vs : List V) (Q : VK) (E : XK), Room k (A.deeper (envOfC x (defScope st) s.heap.objs.size f cdv)) → sp vs H Q E →
      ∃ t, PSs (cxOf CX0 P w K mg base N x (defScope st) f cdv A outer s H E).nox (defBody st) t ∧ t { nx := fun _ H' => Q .non H', rt := Q } (start N vs) H) : C8.Cal P w K mg base (k + 1) x sp [] := by
  obtain ⟨f, fd, F, g, b⟩ := D.ex
  exact ⟨f, fd, ps, [], F.ok S len (fun cdv A outer s H vs Q E hr h => hbody f cdv A outer s H vs Q E hr h), g, F.kp, b, .nil⟩
end
/-! ### what is drawn from -/
def BoxL (n : Nat) (b : List V) : Prop := ∃ b0 b1 b2 : Int, b = [.int b0, .int b1, .int b2] ∧ 0 ≤ b0 ∧ 0 ≤ b1 ∧ b1 < 4611686018427387904 ∧ 0 ≤ b2 ∧ b2 ≤ n
def spTake : Sp := fun vs H Q _ => ∃ (a : Addr) (many : Int) (n : Nat) (b : List V), vs = [.ref a, .int many] ∧ H a = some (.lst b) ∧ BoxL n b ∧ n < 1000000 ∧ 0 < many ∧ many < 1073741824 ∧
  ∀ (r : Int) (b' : List V), 0 ≤ r → r < many → BoxL (n + 1) b' → Q (.int r) (upd H a (.lst b'))
def spDip (K : PySem.W.Frag) : Sp := fun vs H Q _ => ∃ (a : Addr) (k : Nat) (ns : List Int), vs = [.ref a, .int k] ∧ SqL K H a (ns.map V.int) ∧ k ≤ 63 ∧
  ∀ (p : Addr) (b : List V), H p = none → BoxL 0 b → Q (.ref p) (upd H p (.lst b))
def spFold (K : PySem.W.Frag) : Sp := fun vs H Q _ => ∃ (a : Addr) (size : Nat) (ns : List Int), vs = [.ref a, .int size] ∧ SqL K H a (ns.map V.int) ∧ ns.length ≤ 63 ∧ 1 ≤ size ∧ size ≤ 8 ∧
  ∀ (H' : Hp) (p : Addr) (ms : List Int), Same H H' → H p = none → H' p = some (.lst (ms.map V.int)) → ms.length ≤ size → Q (.ref p) H'
/-- the built-in names that the law uses stand as they were -/
structure Bt (mg : Str → Option Value) : Prop where
  len : mg "len" = none
  abs : mg "abs" = none
  int : mg "int" = none
  list : mg "list" = none
  enumerate : mg "enumerate" = none
  range : mg "range" = none
theorem cut_len (xs : List V) (lo hi : Option Int) : (cutV xs lo hi).length ≤ xs.length := by
  unfold cutV
  rw [List.length_take, List.length_drop]
  omega
theorem cut_ints (ns : List Int) (lo hi : Option Int) : ∃ ms : List Int, cutV (ns.map V.int) lo hi = ms.map V.int ∧ ms.length ≤ ns.length := by
  refine ⟨(ns.drop (HT.sIx (ns.map V.int).length 0 lo)).take (HT.sIx (ns.map V.int).length (ns.map V.int).length hi - HT.sIx (ns.map V.int).length 0 lo), ?_, ?_⟩
  · unfold cutV
    rw [List.map_take, List.map_drop]
  · rw [List.length_take, List.length_drop]
    omega
theorem cut_to (ns : List Int) (size : Nat) : cutV (ns.map V.int) none (some (size : Int)) = (ns.take size).map V.int := by
  unfold cutV
  rw [HT.sIx_none, show HT.sIx (ns.map V.int).length (ns.map V.int).length (some (size : Int)) = min size (ns.map V.int).length from HT.sIx_nat _ _ size, List.map_take, List.length_map]
  show ((ns.map V.int).drop 0).take (min size ns.length - 0) = _
  rw [List.drop_zero, Nat.sub_zero]
  by_cases h : size ≤ ns.length
  · rw [Nat.min_eq_left h]
  · rw [Nat.min_eq_right (by omega), List.take_of_length_le (by rw [List.length_map]; omega), List.take_of_length_le (by rw [List.length_map]; omega)]
theorem cut_from_nil (ns : List Int) (size : Nat) (h : ns.length ≤ size) (hi : Option Int) : cutV (ns.map V.int) (some (size : Int)) hi = [] := by
  unfold cutV
  rw [show HT.sIx (ns.map V.int).length 0 (some (size : Int)) = min size (ns.map V.int).length from HT.sIx_nat _ _ size, List.drop_eq_nil_of_le (by rw [List.length_map]; omega), List.take_nil]
section
variable {X : Cx} {k j n i : Nat} {x : Str} {sp : Sp} {p pos : Pos} {e : Expr} {es : List Expr} {kws : List Keyword} {t tk : TA} {te : TE} {ks : List Str} {gV : List V → List V → List V}
/-! ### what is never reached -/
theorem pe_never {e : Expr} : PE X e (fun _ _ _ => False) := ⟨fun _ _ _ _ _ _ h => h.elim⟩
theorem pt_never {e : Expr} : PT X e (fun _ _ _ => False) := ⟨fun _ _ _ _ _ _ h => h.elim⟩
/-! ### calls with keywords -/
structure KCal (P : Program) (w : World) (K : PySem.W.Frag) (mg : Str → Option Value) (base : Heap) (k : Nat) (x : Str) (sp : Sp) (n : Nat) (ks : List Str) (gV : List V → List V → List V) : Prop where
  ex : ∃ (f : Addr) (fd : FuncData) (ps : List Str) (g : List Value → List Value → List Value), FnOk P w K mg base CX0 k f fd ps sp ∧ mg x = some (.ref f) ∧ PySem.W.keepIn K (.ref f) = true ∧ KBn K fd ps n ks g gV
theorem pe_kw (c : KCal X.prog X.w X.K X.mg X.base k x sp n ks gV) (hr : Room j X.A) (hk : k ≤ j) (hg : Gl X x) (ha : PA X (e :: es) t) (hkw : PK X kws tk)
    (hall : (backToKw pos (keywordEach kws X.env)).all (·.1.isSome) = true := by rfl) (hks : (backToKw pos (keywordEach kws X.env)).filterMap (·.1) = ks := by rfl)
    (hdb : (x == ("__debug__" : Str)) = false := by decide) (he : starEach (e :: es) X.env = (false, eval e X.env) :: starEach es X.env := by rfl)
    (hpl : ((backTo pos (starEach (e :: es) X.env)).any (·.1) || (backToKw pos (keywordEach kws X.env)).any (·.1.isNone)) = false := by rfl) :
    PE X (.Call (.Name x p) (e :: es) kws pos) (tCallN n ks.length sp gV E0 t tk) := by
  obtain ⟨f, fd, ps, g, F, hm, kp, b⟩ := c.ex
  exact pe_callN F (hr.mono hk) hg hm kp b pass0 ha hkw hall hks hdb he hpl
theorem pe_kw0 (c : KCal X.prog X.w X.K X.mg X.base k x sp 0 ks gV) (hr : Room j X.A) (hk : k ≤ j) (hg : Gl X x) (hkw : PK X kws tk)
    (hall : (backToKw pos (keywordEach kws X.env)).all (·.1.isSome) = true := by rfl) (hks : (backToKw pos (keywordEach kws X.env)).filterMap (·.1) = ks := by rfl)
    (hdb : (x == ("__debug__" : Str)) = false := by decide)
    (hpl : ((backTo pos (starEach [] X.env)).any (·.1) || (backToKw pos (keywordEach kws X.env)).any (·.1.isNone)) = false := by rfl) :
    PE X (.Call (.Name x p) [] kws pos) (tCallN 0 ks.length sp gV E0 tNil tk) := by
  obtain ⟨f, fd, ps, g, F, hm, kp, b⟩ := c.ex
  refine ⟨fun pins s σ H Q I h => ?_⟩
  refine wpAny_Call_Name_kw (ld_glob I hg hm ?_ hdb)
  refine PySem.W.callWith_KW0 (h₀ := X.base) I.ok.mod.kin kp hall ?_ hpl
  refine thn (hkw.run pos pins s σ H _ I h) fun ws s2 ⟨zs, H2, I2, rz, l1, l2, q2⟩ => ⟨I2.kIn, ?_⟩
  rw [hks]
  exact run_fnN (us := []) (vs := []) F (hr.mono hk) b pass0 I2 .nil rz rfl l2 q2
/-! ### x(*y), x a local name that holds a def -/
def tCallHS (P : Program) (w : World) (K : PySem.W.Frag) (mg : Str → Option Value) (base : Heap) (k i : Nat) (te : TE) : TE := fun σ H Q => ∃ f sp, σ[i]? = some (some (.ref f)) ∧ Held P w K mg base k f sp ∧
  te σ H fun y H1 => ∃ a xs, y = V.ref a ∧ (SqT K H1 a xs ∨ SqL K H1 a xs) ∧ sp xs H1 Q (fun _ _ _ => False)
theorem pe_callHS {sp_ : Pos} (hr : Room k X.A) (hN : X.N[i]? = some x) (hv : Vis X.env.scope x) (he : PE X e te)
    (hdb : (x == ("__debug__" : Str)) = false := by decide) (hcd : (x == ("__classdict__" : Str)) = false := by decide)
    (hst : starEach [.Starred e sp_] X.env = [(true, eval e X.env)] := by rfl) :
    PE X (.Call (.Name x p) [.Starred e sp_] [] pos) (tCallHS X.prog X.w X.K X.mg X.base k i te) := by
  refine ⟨fun pins s σ H Q I h => ?_⟩
  obtain ⟨f, sp, hs, hH, ht⟩ := h
  obtain ⟨fd, ps, F, hk, hb⟩ := hH.ex
  refine wpAny_Call_Name_kw (thn ((pe_var (pos := p) hN hv hdb hcd).run pins s σ H (fun v H1 => v = .ref f ∧ H1 = H) I ⟨.ref f, hs, rfl, rfl⟩) fun u s1 ⟨v, H1, I1, r1, q1⟩ => ?_)
  obtain ⟨rfl, rfl⟩ := q1
  cases r1
  refine PySem.W.callWith_S (h₀ := X.base) I.ok.mod.kin hk (thn (he.run pins s1 σ _ _ I1 ht) fun v s2 ⟨y, H2, I2, ry, a, xs, ey, hxs, q⟩ => ?_) hst
  subst ey
  obtain rfl : v = Value.ref a := ry
  refine StX.star_any I2 hxs fun us s3 I3 rv => ⟨I3.kIn, ?_⟩
  exact run_fn (E := fun _ _ _ => False) F hr hb .nil (fun _ _ _ _ _ _ _ z => z.elim) I3 rv (by rw [List.append_nil]; exact q)
end
section
variable {K : PySem.W.Frag} {x qual : Str} {params : Arguments} {body : List Stmt} {scope : Scope} {kws : List (Str × V)} {f : Addr} {fd : FuncData} {ps : List Str}
/-- keywords, and keyword-only defaults for those that lack; no other defaults -/
theorem kbinds0 (F : FunD K x qual params body scope [] kws f fd) (n : Nat) (ks : List Str) (g : {α : Type} → List α → List α → List α → List α) (hk : kws ≠ [])
    (hrel : ∀ {vs mz zs : List V} {us mv ws : List Value}, Vals vs us → Vals mz mv → Vals zs ws → Vals (g vs mz zs) (g us mv ws))
    (h : ∀ (D : Addr) (doc pm : Value) (an : Option Addr) (cdv ct : Value) (us mv ws : List Value), us.length = n → mv.length = kws.length → ws.length = ks.length →
      KwChain D ((kws.map (·.1)).zip mv) (bindArgs (PySem.W.fnOf x qual params body scope .none (.ref D) doc pm an cdv ct) ⟨us, ks.zip ws⟩) (ps.zip (g us mv ws))) :
    ∃ mv : List Value, KBn K fd ps n ks (fun us ws => g us mv ws) (fun vs zs => g vs (kws.map (·.2)) zs) := by
  obtain ⟨oc, od, dV, kV, doc, pm, an, cdv, ct, osl, rfl, lk, hcd, hD, hK⟩ := F.ex
  rcases hD with ⟨_, rfl⟩ | ⟨e, _⟩
  · rcases hK with e | ⟨D, rfl, hq⟩
    · exact absurd e hk
    · obtain ⟨mv, hl, rk, hks⟩ := kwd_vals hq
      refine ⟨mv, ⟨fun s us ws X l1 l2 => ?_, fun r1 r2 => hrel r1 rk r2⟩⟩
      exact BindsTo.of_looks fun M => KwChain.looks X hks (h D doc pm an cdv ct us mv ws l1 hl l2)
  · exact absurd rfl e
/-- keywords alone, every parameter named or placed -/
theorem kbindsN (F : FunD K x qual params body scope [] kws f fd) (n : Nat) (ks : List Str) (g : {α : Type} → List α → List α → List α)
    (hrel : ∀ {vs zs : List V} {us ws : List Value}, Vals vs us → Vals zs ws → Vals (g vs zs) (g us ws))
    (h : ∀ (kV doc pm : Value) (an : Option Addr) (cdv ct : Value) (us ws : List Value), us.length = n → ws.length = ks.length →
      bindArgs (PySem.W.fnOf x qual params body scope .none kV doc pm an cdv ct) ⟨us, ks.zip ws⟩ = pure (ps.zip (g us ws))) :
    KBn K fd ps n ks (fun us ws => g us ws) (fun vs zs => g vs zs) := by
  obtain ⟨oc, od, dV, kV, doc, pm, an, cdv, ct, osl, rfl, lk, hcd, hD, hK⟩ := F.ex
  rcases hD with ⟨_, rfl⟩ | ⟨e, _⟩
  · exact ⟨fun s us ws X l1 l2 => .of_eq (h kV doc pm an cdv ct us ws l1 l2), fun r1 r2 => hrel r1 r2⟩
  · exact absurd rfl e
end
/-! ### d.update(e) -/
def rDUpd : V → List V → Hp → VK → Prop := fun x vs H Q => ∃ (a b : Addr) (kvs more : List (Key × V)), x = .ref a ∧ vs = [.ref b] ∧ a ≠ b ∧ H a = some (.dK kvs) ∧ H b = some (.dK more) ∧ kvs.length + more.length ≤ 1000 ∧ Q .non (upd H a (.dK (mergeK kvs more)))
theorem mtd_update {X : Cx} : MtR X "dict.update" rDUpd := by
  intro pins s σ H x vs v us Q I rx rv h
  obtain ⟨a, b, kvs, more, ex, ev, nab, ea, eb, hz, q⟩ := h
  subst ex
  subst ev
  obtain rfl : v = Value.ref a := rx
  obtain ⟨u, eu, ru⟩ := rv.one
  subst eu
  obtain rfl : u = Value.ref b := ru
  obtain ⟨z1, ls1, vs1, r1, d1⟩ := I.hok a _ ea
  obtain ⟨z2, ls2, vs2, r2, d2⟩ := I.hok b _ eb
  have l1 : kvs.length = vs1.length := Paired.length r1
  have l2 : more.length = vs2.length := Paired.length r2
  refine call_meetsIn PySem.F.slot_dict_update d1.typeIs PySem.F.entry_dict_update (PySem.F.args_dict_update_2 _ _) (meets_dict_update (mixKind X.prog X.w) a b nab ls2)
    ⟨vs1, vs2, d1, d2, (by rw [← l1, ← l2]; exact Nat.le_trans hz (by decide)), fun h' hm _ hs => ?_⟩
  refine ⟨.non, upd H a (.dK (mergeK kvs more)), ?_, rfl, q⟩
  have hlen : (mergeK kvs more).length ≤ sizeLine := by
    have := length_mergeK more kvs
    have h2 : (1000 : Nat) ≤ sizeLine := by decide
    omega
  obtain ⟨oo, es', ep', ho', _⟩ := id hm
  exact I.write (t' := s.toks) (e := a) (o := .dK (mergeK kvs more)) (by rw [ea]; trivial) (.inl rfl) (fun c u nc e => (hs.2 c nc).trans e) ⟨oo, ho'⟩ ⟨hlen, ls1, merged vs1 vs2, KV.merge r2 r1, hm⟩
/-! ### an exception that is held as a value: its class, its own dict -/
def exv (a C d : Addr) : HO := .ext fun g => ∃ ob fv, g.get? a = some ob ∧ ob.cls = .ref C ∧ ob.dict = some d ∧ ob.data = .fields fv
theorem exv_ok {P : Program} {w : World} {H : Hp} {g : Heap} {a C d : Addr} {ob : Obj} {fv : Array Value} (h1 : g.get? a = some ob) (h2 : ob.cls = .ref C) (h3 : ob.dict = some d) (h4 : ob.data = .fields fv) : ObjOk P w H g a (exv a C d) :=
  ⟨⟨ob, fv, h1, h2, h3, h4⟩, ⟨ob, h1⟩, fun g1 g2 ⟨o2, f2, e1, e2, e3, e4⟩ k => ⟨o2, f2, k _ e1, e2, e3, e4⟩⟩
theorem exv_at {P : Program} {w : World} {H : Hp} {g : Heap} {a C d : Addr} (ok : HOk P w H g) (e : H a = some (exv a C d)) : ∃ ob fv, g.get? a = some ob ∧ ob.cls = .ref C ∧ ob.dict = some d ∧ ob.data = .fields fv := by
  have z : ObjOk P w H g a (.ext fun g => ∃ ob fv, g.get? a = some ob ∧ ob.cls = .ref C ∧ ob.dict = some d ∧ ob.data = .fields fv) := ok a _ e
  exact z.1
section
variable {X : Cx} {pins : List (Addr × Obj)} {σ : L2.St} {H : Hp} {s : Shared}
/-- an object that was made here and is not yet tracked is tracked from now on -/
theorem inv_track {a : Addr} {u : HO} (I : Inv X pins σ H s) (na : H a = none) (nw : ∀ o, X.s_0.heap.get? a ≠ some o) (nL : a ≠ X.env.locals) (nC : ∀ x c, X.env.cells.lookup x = some c → c ≠ a) (nP : ∀ p ∈ X.pn ++ pins, p.1 ≠ a)
    (new : ObjOk X.prog X.w (upd H a u) s.heap a u) : Inv X pins σ (upd H a u) s where
  ok := I.ok
  os := I.os
  bare := I.bare
  base := {
    keep := I.base.keep
    slot := I.base.slot
    free := fun b o e n hx => by
      have nb : b ≠ a := fun z => nw o (z ▸ e)
      rw [upd_ne nb]
      exact I.base.free b o e n hx
    there := I.base.there
    tups := fun b xs e => by
      have e' := I.base.tups b xs e
      rw [upd_ne (ne_of_none e' na)]
      exact e'
    frzs := fun b o xs e => by
      have e' := I.base.frzs b o xs e
      rw [upd_ne (ne_of_none e' na)]
      exact e'
    tbls := fun b ps e => by
      obtain ⟨m, e'⟩ := I.base.tbls b ps e
      exact ⟨m, by rw [upd_ne (ne_of_none e' na)]; exact e'⟩ }
  loc := I.loc
  cell := I.cell
  free := by
    rw [upd_ne (Ne.symm nL)]
    exact I.free
  freeC := fun x c e => by
    rw [upd_ne (nC x c e)]
    exact I.freeC x c e
  pin := fun p hp => by
    obtain ⟨p1, p2, p3⟩ := I.pin p hp
    exact ⟨p1, by rw [upd_ne (nP p hp)]; exact p2, p3⟩
  hok := fun b o e => by
    by_cases hb : b = a
    · subst hb
      rw [upd_same] at e
      cases e
      exact new
    · rw [upd_ne hb] at e
      exact (I.hok b o e).stay (fun _ _ _ z => z) (fun c z => by rw [upd_ne (ne_of_none z na)]; exact z) (fun c xs z => by rw [upd_ne (ne_of_none z na)]; exact z)
  len := I.len
end
/-- what 'except x as n' wishes, where the exception is tracked behind the suite -/
def wKeep (K : PySem.W.Frag) (c : Value) (i : Nat) (ts : Addr → Value → Option Addr → TS) (Wout : WX) (D : Ends) : WX := fun cls d σ H =>
  ∃ (C dd : Addr) (b : Bool), cls = .ref C ∧ d = some dd ∧ PySem.W.exmOne K cls c = some b ∧
    (b = true → ∀ a, H a = none → ts a cls d { nx := fun σ2 H2 => D.nx (σ2.set i none) (upd H2 a (exv a C dd)), rt := D.rt, bk := fun _ _ => False, ct := fun _ _ => False } (σ.set i (some (.ref a))) H) ∧ (b = false → Wout cls d σ H)
section
variable {X : Cx} {x n : Str} {c : Value} {i : Nat} {body suite : List Stmt} {b0 : Stmt} {np pos pos' : Pos} {tb : WX → TS} {ts : Addr → Value → Option Addr → TS} {Wout : WX}
theorem ps_try_keep (hst : X.stack = X.env :: X.outer) (hfr0 : X.env.frame = some X.env.locals) (hex : X.ex = []) (nd : X.N.Nodup) (hi : X.N[i]? = some n) (hk : X.env.kindOf n = some .local) (hnm : Names X x c) (tk : Takes X Wout)
    (hbody : ∀ (W : WX) (pn : List (Addr × Obj)) (xe : Value → Shared → Prop), Takes (X.tr pn xe) W → PassesOwn (model X.prog X.w) X.A X.env xe → PSs (X.tr pn xe) body (tb W))
    (hsuite : ∀ (a : Addr) (oe : Obj) (cls : Value) (d : Option Addr) (pn : List (Addr × Obj)), Zc cls d oe → (∃ vs, oe.data = .fields vs) → PSs (X.suite a ((a, oe) :: pn)) (b0 :: suite) (ts a cls d)) :
    PS X (.Try body [.ExceptHandler (some (.Name x np)) (some n) (b0 :: suite) pos'] [] [] pos) (fun D σ H => tb (wKeep X.K c i ts Wout D) D σ H) := by
  refine ⟨fun pins s σ H D I rd => ?_⟩
  have okX := I.ok
  have hA : X.A.frames = some (X.env :: X.outer) := okX.frames.trans (congrArg some hst)
  refine wpAny_Try_except (wpAny_mono ((hbody (wKeep X.K c i ts Wout D) (X.pn ++ pins)
    (fun e s1 => wpAny (model X.prog X.w) X.A (noteFrame e X.env) (fun _ s2 => wpAny (model X.prog X.w) X.A (setFlight e none) (fun _ s3 => wpAny (model X.prog X.w) X.A (handleBy e X.env [.ExceptHandler (some (.Name x np)) (some n) (b0 :: suite) pos']) (SP X pins D) X.xe s3) X.xe s2) X.xe s1)
    (fun u t xx => ?_) PassesOwn.looking).run [] s σ H D (I.toTry _) rd) (fun fl s1 hfl => ?_) (fun _ _ z => z))
  · obtain ⟨a, G, sI, pins2, σ2, H2, cls, d, eu, J0, inG, upS, sky0, na, eos, bare, C, dd, b, ecls, ed, hexm, hyes, hno⟩ := xx
    subst eu
    subst ecls
    subst ed
    have J : Inv X pins σ2 H2 sI := J0.ofTry okX
    rw [hst] at sky0
    refine Sky.land Zc.steady hA hfr0 sky0 fun g3 fly3 up3 => ?_
    have J3 : Inv X pins σ2 H2 { t with heap := g3 } := J.landed inG fly3.1 (upS.trans up3) eos bare
    obtain ⟨o3, f3, at3, z3, dat3⟩ := fly3.there
    have offF : a ∉ frs (X.env :: X.outer) := fun hm => by
      obtain ⟨_, ob, eo, nof⟩ := fly3.2.2.1.mem hm
      have eq : o3 = ob := Option.some.inj (at3.symm.trans eo)
      exact nof _ (eq ▸ dat3)
    have nLoc : a ≠ X.env.locals := fun z => offF (List.mem_filterMap.mpr ⟨X.env, List.mem_cons_self, by rw [hfr0, z]⟩)
    have nFs : a ∉ X.fs := fun hm => by
      obtain ⟨ev, hev, qe⟩ := List.mem_filterMap.mp hm
      exact offF (List.mem_filterMap.mpr ⟨ev, List.mem_cons_of_mem _ hev, qe⟩)
    have outG : G.get? a = none := fly3.2.1
    have outI : ∀ o, sI.heap.get? a ≠ some o := fun o z => by
      have z2 := inG a o z (by rw [hst]; exact offF)
      rw [outG] at z2
      cases z2
    have out0 : ∀ o, X.s_0.heap.get? a ≠ some o := fun o z => by
      obtain ⟨o', z2⟩ := J.base.there a o z (by rw [hex]; exact List.not_mem_nil)
      exact outI o' z2
    have noPin : ∀ p ∈ X.pn ++ pins, p.1 ≠ a := fun p hp z => outI p.2 (z ▸ (J.pin p hp).1)
    refine wpAny_handleBy_cons (codeAny_handlers_test ?_) (fun q => by cases q)
    have isT : PySem.W.Looks (model X.prog X.w) g3 (typeOf (.ref a)) (.ref C) := fun _ _ _ _ kp q => wpAny_typeOf_ref (kp _ _ at3) (by rw [z3.1]; exact q)
    have asks := PySem.W.exm_one (M := model X.prog X.w) J3.kIn isT hexm
    have S3 := J3.suite at3 dat3 na nLoc nFs
    have named : ∀ {Q E : Value → Shared → Prop}, Q c { t with heap := g3 } → wpAny (model X.prog X.w) (X.A.mark (some (.ref a))) (eval (.Name x np) X.env) Q E { t with heap := g3 } := fun {Q E} q => by
      obtain ⟨gl, db, way⟩ := hnm
      rcases way with m1 | ⟨m1, m2, m3⟩
      · exact ld_glob (X := X.suite a ((a, o3) :: (X.pn ++ pins))) S3 gl m1 q db
      · exact ld_blt (X := X.suite a ((a, o3) :: (X.pn ++ pins))) S3 gl m1 m2 q m3 db
    refine named (asks.here ?_)
    cases b with
    | true =>
      refine codeAny_handlers_suite_as (HandSPX.lands_againZ fly3 fun g4 fly4 up4 => ?_)
      have J4 : Inv X pins σ2 H2 { t with heap := g4 } := J.landed inG fly4.1 ((upS.trans up3).trans up4) eos bare
      obtain ⟨o4, f4, at4, z4, dat4⟩ := fly4.there
      have S4 := J4.suite at4 dat4 na nLoc nFs
      refine store_ok (X := X.suite a ((a, o4) :: (X.pn ++ pins))) (v := .ref a) S4 nd hi (.inl hk) rfl (fun s5 S5 => ?_) (.inr hk)
      refine wpAny_mono ((hsuite a o4 (.ref C) (some dd) (X.pn ++ pins) z4 ⟨_, dat4⟩).run [] s5 _ H2 _ S5 (hyes rfl a na)) (fun fl s6 hfl => ?_) (fun _ _ z => z.elim)
      cases fl with
      | next =>
        obtain ⟨σ6, H6, S6, q6⟩ := hfl
        refine gone_ok (X := X.suite a ((a, o4) :: (X.pn ++ pins))) S6 nd hi hk fun s7 S7 => ?_
        obtain ⟨at7, na7, _, _, nc7⟩ := S7.pin (a, o4) (by rw [List.append_nil]; exact List.mem_cons_self)
        have J7 : Inv X pins (σ6.set i none) H6 s7 := S7.unsuite okX
        refine ⟨_, _, inv_track (u := exv a C dd) J7 na7 out0 nLoc (fun y cc e z => ?_) noPin (exv_ok at7 z4.1 z4.2 dat4), q6⟩
        obtain ⟨vv, oc, ec, dc⟩ := J7.cell y cc e
        rw [z, at7] at ec
        cases ec
        rw [dat4] at dc
        cases dc
      | ret u =>
        obtain ⟨v6, σ6, H6, S6, r6, q6⟩ := hfl
        exact gone_ok (S6.unsuite okX) nd hi hk fun s7 J7 => ⟨_, _, _, J7, r6, q6⟩
      | brk =>
        obtain ⟨_, _, _, q6⟩ := hfl
        exact q6.elim
      | cont =>
        obtain ⟨_, _, _, q6⟩ := hfl
        exact q6.elim
    | false =>
      refine wpAny_handleBy_nil ?_
      obtain ⟨_, _, _, ob, fv, T, oT, _, eo, _, dat, h1, _⟩ := id fly3
      unfold PySem.passOn
      refine wpAny_bind (wpAny_field eo dat h1 ?_)
      rw [if_neg (show ¬ ((Value.ref T == Value.none) = true) by simp)]
      have leave : wpAny (model X.prog X.w) X.A (setFlight (.ref a) X.env.frame) (fun _ s4 => wpAny (model X.prog X.w) X.A (throw (.ref a) : Sem Flow) (SP X pins D) X.xe s4) X.xe { t with heap := g3 } := by
        rw [hfr0]
        refine HandSPX.setFlight_upZ fly3 fun g4 held4 up4 => wpAny_throw (tk _ _ ⟨a, G, sI, pins, σ2, H2, .ref C, some dd, rfl, J, inG, (upS.trans up3).trans up4, .inr (.inr ?_), na, eos, bare, hno rfl⟩)
        rw [hst]
        exact held4
      first
        | exact wpAny_bind (wpAny_pure (wpAny_bind leave))
        | exact wpAny_bind leave
  · cases fl with
    | next =>
      obtain ⟨σ1, H1, J1, q1⟩ := hfl
      exact wpAny_execs_nil ⟨_, _, J1.ofTry okX, q1⟩
    | brk =>
      obtain ⟨σ1, H1, J1, q1⟩ := hfl
      exact ⟨_, _, J1.ofTry okX, q1⟩
    | cont =>
      obtain ⟨σ1, H1, J1, q1⟩ := hfl
      exact ⟨_, _, J1.ofTry okX, q1⟩
    | ret u =>
      obtain ⟨v1, σ1, H1, J1, r1, q1⟩ := hfl
      exact ⟨_, _, _, J1.ofTry okX, r1, q1⟩
end
/-! ### what such a value bears, and of which class it is -/
structure XvC (K : PySem.W.Frag) (C : Addr) : Prop where
  ga : PySem.W.findIn K (.ref C) "__getattribute__" = some (some (.builtin "BaseException.__getattribute__"))
  gg : PySem.W.findIn K (.ref C) "__getattr__" = some none
  sb : PySem.W.subIn K (.ref C) (.type "BaseException") = some true
  hd : PySem.W.hasDictIn K C = true
  kl : PySem.W.findIn K (.ref C) "__class__" = some (some (.builtin "object.__class__"))
  kg : PySem.W.specialIn K (.builtin "object.__class__") "__get__" = some (some (.builtin "getset_descriptor.__get__"))
  kt : PySem.W.takesIn K (.builtin "object.__class__") = some true
  ob : PySem.W.mroIn K C (.type "object") = some true
def tXv (K : PySem.W.Frag) (f : Str) (te : TE) : TE := fun σ H Q => te σ H fun y H1 => ∃ (a C d : Addr) (fs : List (Str × V)) (v : V), y = .ref a ∧ H1 a = some (exv a C d) ∧ XvC K C ∧ PySem.W.findIn K (.ref C) f = some none ∧ H1 d = some (.xd fs) ∧ fs.lookup f = some v ∧ Q v H1
theorem inst_of {X : Cx} {pins : List (Addr × Obj)} {σ : L2.St} {H : Hp} {s : Shared} {a C d : Addr} {fs : List (Str × V)} (I : Inv X pins σ H s) (ea : H a = some (exv a C d)) (ed : H d = some (.xd fs)) :
    ∃ (ob od : Obj) (mA : Str → Option Value), PySem.W.InstAt s.heap a ob C (some od) ∧ (∀ f, RelO (fs.lookup f) (mA f)) ∧ ∀ nm, PySem.W.lookIn nm od = some (mA nm) := by
  obtain ⟨ob, fv, h1, h2, h3, h4⟩ := exv_at I.hok ea
  obtain ⟨mA, hns, hr⟩ : ObjOk X.prog X.w H s.heap d (.xd fs) := I.hok d _ ed
  obtain ⟨od, ho, hl⟩ := lookIn_ns hns
  refine ⟨ob, od, mA, ⟨h1, h2, ?_, ?_⟩, hr, hl⟩
  · unfold PySem.W.notCls
    rw [h4]
  · rw [h3]
    exact ho
theorem pe_xv {X : Cx} {e : Expr} {te : TE} {pos : Pos} {f : Str} (he : PE X e te) (hb : attributeBase e f X.env (eval e X.env) = eval e X.env := by rfl) : PE X (.Attribute e f pos) (tXv X.K f te) := by
  refine ⟨fun pins s σ H Q I rd => attr_of hb (thn (he.run pins s σ H _ I rd) fun u s1 hh => ?_)⟩
  obtain ⟨y, H1, I1, ry, a, C, d, fs, v, ey, ea, T, hno, ed, hl, q⟩ := hh
  subst ey
  obtain rfl : u = Value.ref a := ry
  obtain ⟨ob, od, mA, J, hr, hlk⟩ := inst_of I1 ea ed
  obtain ⟨u2, e2, r2⟩ := RelO.some_of (v := v) (o := mA f) (by rw [← hl]; exact hr f)
  exact HandSPX.exc_get I1.kIn J T.ga T.gg T.sb (PySem.W.findObj_own T.hd hno rfl (by rw [hlk, e2])) (handed_of r2) ⟨v, H1, I1.tok _, r2, q⟩
/-- isinstance(e, c) -/
def rXvI (K : PySem.W.Frag) : List V → Hp → VK → Prop := fun xs H Q => ∃ (a C d : Addr) (fs : List (Str × V)) (c : V) (cu : Value) (b : Bool), xs = [.ref a, c] ∧ H a = some (exv a C d) ∧ XvC K C ∧ H d = some (.xd fs) ∧ ClsV c cu ∧ PySem.W.kitOne K (.ref C) cu = some b ∧ Q (.bl b) H
theorem call_isXv {X : Cx} : CallR X (.builtin "isinstance") (rXvI X.K) := by
  intro pins s σ H xs us Q I r h
  obtain ⟨a, C, d, fs, c, cu, b, rfl, ea, T, ed, hc, hk, q⟩ := h
  cases r with
  | cons r1 rr =>
    cases rr with
    | cons r2 r3 =>
      cases r3
      cases r1
      have ec := hc.eq r2
      subst ec
      obtain ⟨ob, od, mA, J, hr, hlk⟩ := inst_of I ea ed
      have hcl : (PySem.W.clsIn X.K C).isSome = true := by
        obtain ⟨cd, e1, _⟩ := PySem.W.any_some T.hd
        rw [e1]
        rfl
      exact PySem.W.kia_one (PySem.W.kitx_exc hcl T.ga T.gg T.sb T.kl T.kg T.kt T.ob) I.kIn J hk (fun z => nomatch z) fun tk => ⟨.bl b, H, I.kept (t' := tk) fun _ _ z => z, rfl, q⟩
/-- isinstance(e, (c1, c2, ..)) -/
def rXvT (K : PySem.W.Frag) : List V → Hp → VK → Prop := fun xs H Q => ∃ (a C d tp : Addr) (fs : List (Str × V)) (cs : List V) (cu : List Value) (b : Bool), xs = [.ref a, .ref tp] ∧ H a = some (exv a C d) ∧ XvC K C ∧ H d = some (.xd fs) ∧ H tp = some (.tup cs) ∧ Paired ClsV cs cu ∧
  PySem.W.kitAny K (.ref C) cu = some b ∧ Q (.bl b) H
theorem call_isXvT {X : Cx} : CallR X (.builtin "isinstance") (rXvT X.K) := by
  intro pins s σ H xs us Q I r h
  obtain ⟨a, C, d, tp, fs, cs, cu, b, rfl, ea, T, ed, et, hc, hk, q⟩ := h
  cases r with
  | cons r1 rr =>
    cases rr with
    | cons r2 r3 =>
      cases r3
      cases r1
      cases r2
      obtain ⟨ob, od, mA, J, hr, hlk⟩ := inst_of I ea ed
      have hcl : (PySem.W.clsIn X.K C).isSome = true := by
        obtain ⟨cd, e1, _⟩ := PySem.W.any_some T.hd
        rw [e1]
        rfl
      obtain ⟨hz, its, rv, ⟨c5, d5, t5, s5⟩, p1, p2, n5, p3⟩ : ObjOk X.prog X.w H s.heap tp (.tup cs) := I.hok tp _ et
      have ei := ClsV.all hc rv
      subst ei
      dsimp only at p2 p3
      subst p2 p3
      exact PySem.W.kia_tup (PySem.W.kitx_exc hcl T.ga T.gg T.sb T.kl T.kg T.kt T.ob) I.kIn J p1 hk (fun z => nomatch z) fun tk => ⟨.bl b, H, I.kept (t' := tk) fun _ _ z => z, rfl, q⟩
/-! ### calls with keywords of a def that may let an error out -/
structure KCalX (P : Program) (w : World) (K : PySem.W.Frag) (mg : Str → Option Value) (base : Heap) (k : Nat) (x : Str) (sp : Sp) (n : Nat) (ks : List Str) (gV : List V → List V → List V) : Prop where
  ex : ∃ (f : Addr) (fd : FuncData) (ps : List Str) (g : List Value → List Value → List Value), FnOk P w K mg base (L2.CX P w) k f fd ps sp ∧ mg x = some (.ref f) ∧ PySem.W.keepIn K (.ref f) = true ∧ KBn K fd ps n ks g gV
structure CalX (P : Program) (w : World) (K : PySem.W.Frag) (mg : Str → Option Value) (base : Heap) (k : Nat) (x : Str) (sp : Sp) (dvs : List V) : Prop where
  ex : ∃ (f : Addr) (fd : FuncData) (ps : List Str) (ds : List Value), FnOk P w K mg base (L2.CX P w) k f fd ps sp ∧ mg x = some (.ref f) ∧ PySem.W.keepIn K (.ref f) = true ∧ Binds K fd ps ds ∧ Vals dvs ds
theorem passX {X : Cx} : Passes (L2.CX X.prog X.w) X (fun _ _ _ => False) := fun _ _ _ _ _ _ _ h => by
  obtain ⟨_, _, _, _, _, _, _, _, _, _, _, _, z⟩ := h
  exact z.elim
section
variable {X : Cx} {k j n : Nat} {x : Str} {sp : Sp} {p pos : Pos} {e : Expr} {es : List Expr} {kws : List Keyword} {t tk : TA} {ks : List Str} {gV : List V → List V → List V} {dvs : List V}
theorem pe_cX (c : CalX X.prog X.w X.K X.mg X.base k x sp dvs) (hr : Room j X.A) (hk : k ≤ j) (hg : Gl X x) (ha : PA X (e :: es) t)
    (hdb : (x == ("__debug__" : Str)) = false := by decide) (he : starEach (e :: es) X.env = (false, eval e X.env) :: starEach es X.env := by rfl) (hpl : (backTo pos (starEach es X.env)).any (·.1) = false := by rfl) :
    PE X (.Call (.Name x p) (e :: es) [] pos) (tCall sp dvs (fun _ _ _ => False) t) := by
  obtain ⟨f, fd, ps, ds, F, hm, kp, b, d⟩ := c.ex
  exact pe_call F (hr.mono hk) hg hm kp b d passX ha hdb he hpl
theorem pe_kwX (c : KCalX X.prog X.w X.K X.mg X.base k x sp n ks gV) (hr : Room j X.A) (hk : k ≤ j) (hg : Gl X x) (ha : PA X (e :: es) t) (hkw : PK X kws tk)
    (hall : (backToKw pos (keywordEach kws X.env)).all (·.1.isSome) = true := by rfl) (hks : (backToKw pos (keywordEach kws X.env)).filterMap (·.1) = ks := by rfl)
    (hdb : (x == ("__debug__" : Str)) = false := by decide) (he : starEach (e :: es) X.env = (false, eval e X.env) :: starEach es X.env := by rfl)
    (hpl : ((backTo pos (starEach (e :: es) X.env)).any (·.1) || (backToKw pos (keywordEach kws X.env)).any (·.1.isNone)) = false := by rfl) :
    PE X (.Call (.Name x p) (e :: es) kws pos) (tCallN n ks.length sp gV (fun _ _ _ => False) t tk) := by
  obtain ⟨f, fd, ps, g, F, hm, kp, b⟩ := c.ex
  exact pe_callN F (hr.mono hk) hg hm kp b passX ha hkw hall hks hdb he hpl
theorem pe_kw0X (c : KCalX X.prog X.w X.K X.mg X.base k x sp 0 ks gV) (hr : Room j X.A) (hk : k ≤ j) (hg : Gl X x) (hkw : PK X kws tk)
    (hall : (backToKw pos (keywordEach kws X.env)).all (·.1.isSome) = true := by rfl) (hks : (backToKw pos (keywordEach kws X.env)).filterMap (·.1) = ks := by rfl)
    (hdb : (x == ("__debug__" : Str)) = false := by decide)
    (hpl : ((backTo pos (starEach [] X.env)).any (·.1) || (backToKw pos (keywordEach kws X.env)).any (·.1.isNone)) = false := by rfl) :
    PE X (.Call (.Name x p) [] kws pos) (tCallN 0 ks.length sp gV (fun _ _ _ => False) tNil tk) := by
  obtain ⟨f, fd, ps, g, F, hm, kp, b⟩ := c.ex
  refine ⟨fun pins s σ H Q I h => ?_⟩
  refine wpAny_Call_Name_kw (ld_glob I hg hm ?_ hdb)
  refine PySem.W.callWith_KW0 (h₀ := X.base) I.ok.mod.kin kp hall ?_ hpl
  refine thn (hkw.run pos pins s σ H _ I h) fun ws s2 ⟨zs, H2, I2, rz, l1, l2, q2⟩ => ⟨I2.kIn, ?_⟩
  rw [hks]
  exact run_fnN (us := []) (vs := []) F (hr.mono hk) b passX I2 .nil rz rfl l2 q2
/-- what it lets out is wished for at the caller's slots -/
def tCallNT (n m : Nat) (sp : Sp) (gV : List V → List V → List V) (W : WX) (t tk : TA) : TE := fun σ H Q => t σ H fun vs H1 => tk σ H1 fun zs H2 => vs.length = n ∧ zs.length = m ∧ sp (gV vs zs) H2 Q (WE W σ)
theorem pe_kwT {W : WX} (c : KCalX X.prog X.w X.K X.mg X.base k x sp n ks gV) (hr : Room j X.A) (hk : k ≤ j) (hg : Gl X x) (tkw : Takes X W) (ha : PA X (e :: es) t) (hkw : PK X kws tk)
    (hall : (backToKw pos (keywordEach kws X.env)).all (·.1.isSome) = true := by rfl) (hks : (backToKw pos (keywordEach kws X.env)).filterMap (·.1) = ks := by rfl)
    (hdb : (x == ("__debug__" : Str)) = false := by decide) (he : starEach (e :: es) X.env = (false, eval e X.env) :: starEach es X.env := by rfl)
    (hpl : ((backTo pos (starEach (e :: es) X.env)).any (·.1) || (backToKw pos (keywordEach kws X.env)).any (·.1.isNone)) = false := by rfl) :
    PE X (.Call (.Name x p) (e :: es) kws pos) (tCallNT n ks.length sp gV W t tk) := by
  obtain ⟨f, fd, ps, g, F, hm, kp, b⟩ := c.ex
  refine ⟨fun pins s σ H Q I h => ?_⟩
  refine wpAny_Call_Name_kw (ld_glob I hg hm ?_ hdb)
  refine PySem.W.callWith_KW (h₀ := X.base) I.ok.mod.kin kp hall (thn (ha.run pos pins s σ H _ I h) fun us s1 ⟨vs, H1, I1, r, q⟩ => ?_) hpl he
  refine thn (hkw.run pos pins s1 σ H1 _ I1 q) fun ws s2 ⟨zs, H2, I2, rz, l1, l2, q2⟩ => ⟨I2.kIn, ?_⟩
  rw [hks]
  have r2 := b.rel r rz
  refine wpAny_call (codeAny_mono (F.run X.A X.stack s2 H2 ⟨us, ks.zip ws⟩ (g us ws) (gV vs zs) Q (WE W σ) (hr.mono hk) I2.env0 (b.to s2 us ws I2.kIn (r.length.symm.trans l1) (rz.length.symm.trans l2)) r2 q2) fun res s' hq => ?_)
  cases res with
  | error er => exact passAt tkw σ pins H2 s2 er s' I2 hq
  | ok fl =>
    cases fl with
    | ret u => exact I2.after hq
    | next => exact hq.elim
    | brk => exact hq.elim
    | cont => exact hq.elim
end
end Thr
namespace PySem
namespace Oxb
open PySem.W PySem.Calls PyProof.Rows PySem.HandSPX
section
open Builtin Builtin.ObjectAttr
variable {prog : Program} {w : World} {A : Around} {R : Result → Shared → Prop} {h0 : Heap} {gs : Array GenState} {dr : Drawn} {tn : Nat} {os : OsState}
/-- the mro of such a class lets a field be stored -/
structure MroOk (m : List Value) : Prop where
  pass : ∀ self, refuseLoop self "__setattr__" m = pure ()
  obj : m.contains (.type "object") = true
  full : m.isEmpty = false
theorem sub_obj {K : W.Frag} {e C : Addr} {ob : Obj} {od : Option Obj} {cd : ClassData} (X : K.In h0) (I : W.InstAt h0 e ob C od) (hcd : W.clsIn K C = some cd) (hm : MroOk cd.mro) : W.Looks (model prog w) h0 (isInstance (.ref e) (.type "object")) true := by
  refine I.type.andThen (W.looks_mroIn X ?_)
  unfold W.mroIn
  rw [hcd, Option.bind_some, if_neg (by rw [hm.full]; decide), hm.obj]
/-- the first field: the dict is laid -/
theorem store_first {K : W.Frag} {nm : Str} {tk : Tok} {v : Value} {e C : Addr} {fv : Array Value} {cd : ClassData} (X : K.In h0) (he : h0.get? e = some { cls := .ref C, data := .fields fv }) (hcd : W.clsIn K C = some cd) (hm : MroOk cd.mro) (hh : cd.hasDict = true) (ha : W.findIn K (.ref C) nm = some none)
    (hq : ∀ h1 t1 dx, (∀ b o, b ≠ e → h0.get? b = some o → h1.get? b = some o) → h0.objs.size ≤ dx → dx ≠ e → h1.get? e = some { cls := .ref C, dict := some dx, data := .fields fv } → h1.Ns1 dx (fun y => if y = nm then some v else none) → R (.ok (.ret .none)) ⟨h1, gs, dr, t1, os⟩) :
    codeAny (model prog w) A (.call (.builtin "object.__setattr__") ⟨[.ref e, .str nm tk, v], []⟩) R ⟨h0, gs, dr, tn, os⟩ := by
  have J : W.InstAt h0 e { cls := .ref C, data := .fields fv } C none := ⟨he, rfl, rfl, trivial⟩
  have hes : e ≠ h0.objs.size := Nat.ne_of_lt (Heap.lt_size he)
  have L1 : W.Looks (model prog w) h0 (mroOf (.ref C)) cd.mro := (W.looks_clsIn X hcd).andThen .now
  have L2 : W.Looks (model prog w) h0 (storeTaker? none) none := .now
  have L4 : W.Looks (model prog w) h0 (classData C) cd := W.looks_clsIn X hcd
  refine codeAny_call_builtin F.store_object.slot.plain F.store_object.entry (@W.check_slot (model prog w) _ _ ⟨h0, gs, dr, tn, os⟩ "object.__setattr__" "object" "__setattr__" (.ref e) [.str nm tk, v] [] _ F.store_object.kind F.store_object.split (sub_obj X J hcd hm) (F.store_object.args (.ref e) (.str nm tk) v) ?_)
  rw [W.osa_eq, refuse_eq]
  refine wpAny_bind (wpAny_bind (J.type.at (wpAny_bind (L1.at ?_))))
  rw [hm.pass]
  refine wpAny_pure (wpAny_bind (J.type.at (wpAny_bind ((W.looks_findIn X ha).at (wpAny_bind (L2.at ?_))))))
  show wpAny _ _ (storeInOwnDict (.ref e) (.ref C) (.str nm tk) nm v false) _ _ _
  obtain ⟨c1, c2, c3, c4, c5, c6, c7, c8, c9, c10, c11⟩ := cd
  dsimp only at hh
  subst hh
  unfold storeInOwnDict ownDictForStores
  repeat (first | with_reducible refine store_in_new ?_ ?_ | with_reducible refine wpAny_loadPart_at he ?_ | with_reducible refine L4.at ?_ | wp_step)
  · exact ⟨_, #[], _, (Heap.get?_update_ne _ _ _ _ hes.symm).trans (Heap.get?_push_at rfl rfl), rfl, fun x hx => absurd hx (by simp), fun _ => rfl⟩
  · intro h1 t1 hn hs
    have he1 : (h0.push { cls := .type "dict", data := .dict #[] }).get? e = some { cls := .ref C, data := .fields fv } := Heap.get?_push_of_some _ he
    refine hq h1 t1 h0.objs.size (fun b o hb ho => ?_) (Nat.le_refl _) hes.symm ((hs.2 e hes).trans (Heap.get?_update_self _ he1 rfl)) hn
    exact (hs.2 b (Nat.ne_of_lt (Heap.lt_size ho))).trans ((Heap.get?_update_ne _ _ _ _ hb).trans (Heap.get?_push_of_some _ ho))
/-- a further field -/
theorem store_more {K : W.Frag} {nm : Str} {tk : Tok} {v : Value} {e C dx : Addr} {fv : Array Value} {cd : ClassData} {m0 : Str → Option Value} {nl : List Str} (X : K.In h0) (he : h0.get? e = some { cls := .ref C, dict := some dx, data := .fields fv }) (hns : h0.Ns1 dx m0) (hw : Within m0 nl) (hz : nl.length ≤ 1000)
    (hcd : W.clsIn K C = some cd) (hm : MroOk cd.mro) (hh : cd.hasDict = true) (ha : W.findIn K (.ref C) nm = some none)
    (hq : ∀ h1 t1, (∀ b o, b ≠ dx → h0.get? b = some o → h1.get? b = some o) → h1.Ns1 dx (fun y => if y = nm then some v else m0 y) → R (.ok (.ret .none)) ⟨h1, gs, dr, t1, os⟩) :
    codeAny (model prog w) A (.call (.builtin "object.__setattr__") ⟨[.ref e, .str nm tk, v], []⟩) R ⟨h0, gs, dr, tn, os⟩ := by
  obtain ⟨oD, esD, epD, hoD, _, _⟩ := hns.count hw
  have J : W.InstAt h0 e { cls := .ref C, dict := some dx, data := .fields fv } C (some oD) := ⟨he, rfl, rfl, hoD⟩
  have L1 : W.Looks (model prog w) h0 (mroOf (.ref C)) cd.mro := (W.looks_clsIn X hcd).andThen .now
  have L2 : W.Looks (model prog w) h0 (storeTaker? none) none := .now
  have L4 : W.Looks (model prog w) h0 (classData C) cd := W.looks_clsIn X hcd
  refine codeAny_call_builtin F.store_object.slot.plain F.store_object.entry (@W.check_slot (model prog w) _ _ ⟨h0, gs, dr, tn, os⟩ "object.__setattr__" "object" "__setattr__" (.ref e) [.str nm tk, v] [] _ F.store_object.kind F.store_object.split (sub_obj X J hcd hm) (F.store_object.args (.ref e) (.str nm tk) v) ?_)
  rw [W.osa_eq, refuse_eq]
  refine wpAny_bind (wpAny_bind (J.type.at (wpAny_bind (L1.at ?_))))
  rw [hm.pass]
  refine wpAny_pure (wpAny_bind (J.type.at (wpAny_bind ((W.looks_findIn X ha).at (wpAny_bind (L2.at ?_))))))
  show wpAny _ _ (storeInOwnDict (.ref e) (.ref C) (.str nm tk) nm v false) _ _ _
  obtain ⟨c1, c2, c3, c4, c5, c6, c7, c8, c9, c10, c11⟩ := cd
  dsimp only at hh
  subst hh
  unfold storeInOwnDict ownDictForStores
  repeat (first | with_reducible refine PySem.OEX.store_in_old hns hw hz ?_ | with_reducible refine wpAny_loadPart_at he ?_ | with_reducible refine L4.at ?_ | wp_step)
  exact fun h1 t1 hn hs => hq h1 t1 (fun b o hb ho => (hs.2 b hb).trans ho) hn
end
/-! ### making such an error: the built-in __new__ that it inherits, then its own __init__ -/
structure NewOk (newId : String) (bm : List Value) : Prop where
  ex : ∃ (Bn initn : String) (bn : List Value), ExcBaseFacts Bn newId initn bn ∧ bm.contains (.type Bn) = true ∧ bm.contains (.type "AttributeError") = false ∧ bm.contains (.type "NameError") = false
structure InitOk (B : String) (bm : List Value) : Prop where
  plain : plainId (B ++ ".__init__") = true
  entry : entryFor table (B ++ ".__init__") = some Builtin.«BaseException.__init__»
  kind : builtinKind (B ++ ".__init__") = some .slot
  split : splitId (B ++ ".__init__") = some (B, "__init__")
  row : Manifest.signature? (B ++ ".__init__") = some ⟨.positional, "*", B, .self, [⟨"args", .varPos, false⟩]⟩
  star : (B != "*") = true
  has : bm.contains (.type B) = true
section
variable {prog : Program} {w : World} {A : Around} {E : Value → Shared → Prop} {R : Result → Shared → Prop} {hp : Heap} {ga : Array GenState} {dw : Drawn} {tn : Nat} {os : OsState}
variable {n1 n2 : Str} {C N : Addr} {b1 bm : List Value} {hd : Bool} {s1 : List Str} {s2 : List Value} {ab : Bool} {co : Option Bool} {d1 : Option Addr} {k0 k1 k2 k3 k5 : Option Value} {B newId : String}
theorem init_any (I : InitOk B bm) {e t0 : Addr} {more : List Value} (hC : hp.get? C = some (excClassObj n1 n2 C N b1 bm hd s1 s2 ab co d1 k0 k1 k2 k3 k5 newId)) (he : hp.get? e = some (excO C t0)) (hl : more.length ≤ sizeLine)
    (hq : ∀ h2 t2, (∀ b o, b ≠ e → hp.get? b = some o → h2.get? b = some o) → h2.get? e = some (excO C t2) → R (.ok (.ret .none)) ⟨h2, ga, dw, tn, os⟩) :
    codeAny (model prog w) A (.call (.builtin (B ++ ".__init__")) ⟨.ref e :: more, []⟩) R ⟨hp, ga, dw, tn, os⟩ := by
  have hin : (Value.ref C :: bm).contains (.type B) = true := by
    rw [List.contains_cons, I.has, Bool.or_true]
  have hst := I.star
  refine codeAny_call_builtin I.plain I.entry ?_
  have chk : ∀ {Q : Unit → Shared → Prop} {E : Value → Shared → Prop} {A : Around}, Q () ⟨hp, ga, dw, tn, os⟩ → wpAny (model prog w) A (checkBuiltinCall (B ++ ".__init__") ⟨.ref e :: more, []⟩) Q E ⟨hp, ga, dw, tn, os⟩ := fun {Q E A} q => by
    simp only [checkBuiltinCall, I.kind, I.split, I.row]
    repeat (first | (with_reducible refine wpAny_loadPart_at he ?_) | with_reducible refine wpAny_loadPart_at hC ?_ | (with_reducible refine wpAny_isSubtype_exc hC ?_; rw [hin]) | wp_step)
    refine wpAny_onRaise ?_
    rw [show ∀ (x y : String) (n : Nat), Bind.check ⟨.positional, "*", B, .self, [⟨"args", .varPos, false⟩]⟩ x y n (List.map (fun z => z.fst) ({ pos := Value.ref e :: more } : Args).kw) = pure () from
      fun _ _ _ => check_star_args _ _ _ _ _ _]
    exact wpAny_pure q
  refine chk ?_
  wp_walk
  refine hq _ hp.objs.size (fun b o hb ho => ?_) ?_
  · exact (Heap.get?_update_other _ _ (Ne.symm hb)).trans (Heap.get?_push_of_some _ ho)
  · exact Heap.get?_update_self _ (Heap.get?_push_of_some _ he) rfl
theorem new_any (Nw : NewOk newId bm) {more : List Value} (hC : hp.get? C = some (excClassObj n1 n2 C N b1 bm hd s1 s2 ab co d1 k0 k1 k2 k3 k5 newId)) (hl : more.length ≤ sizeLine)
    (hq : R (.ok (.ret (.ref (hp.objs.size + 1)))) ⟨(hp.push { cls := .type "tuple", data := .seq more.toArray }).push { cls := .ref C, data := .fields #[.ref hp.objs.size, .none, .none, .none, .bool false, .none] }, ga, dw, tn, os⟩) :
    codeAny (model prog w) A (.builtin newId ⟨.ref C :: more, []⟩) R ⟨hp, ga, dw, tn, os⟩ := by
  obtain ⟨Bn, initn, bn, FB, c1, c2, c3⟩ := Nw.ex
  have e0 := FB.ends
  have e1 : (Value.ref C :: bm).contains (.type Bn) = true := by
    rw [List.contains_cons, c1, Bool.or_true]
  have e2 : (Value.ref C :: bm).contains (.type "AttributeError") = false := by
    rw [List.contains_cons, c2]
    rfl
  have e3 : (Value.ref C :: bm).contains (.type "NameError") = false := by
    rw [List.contains_cons, c3]
    rfl
  refine codeAny_builtinAt FB.entry ?_
  unfold Builtin.«BaseException.__new__»
  refine wpAt_bind ?_
  show wpAt _ _ _ (stack >>= _) _ _ _
  refine wpAt_bind (wpAt_stack fun p below => wpAt_of_wpAny ?_)
  wp_walk
  refine wpAt_of_wpAny ?_
  rw [FB.owner]
  repeat (first | with_reducible refine wpAny_madeHere_exc FB.canon hC ?_ | with_reducible refine wpAny_loadPart_at hC ?_ | (with_reducible refine wpAny_isSubtype_exc hC ?_; first | rw [e1] | rw [e2] | rw [e3]) | wp_step)
  show R _ _
  rw [Heap.size_push]
  exact hq
theorem check_any (Nw : NewOk newId bm) {M : Model} {more : List Value} {Q : Unit → Shared → Prop} (hC : hp.get? C = some (excClassObj n1 n2 C N b1 bm hd s1 s2 ab co d1 k0 k1 k2 k3 k5 newId)) (q : Q () ⟨hp, ga, dw, tn, os⟩) :
    wpAny M A (checkBuiltinCall newId ⟨.ref C :: more, []⟩) Q E ⟨hp, ga, dw, tn, os⟩ := by
  obtain ⟨Bn, initn, bn, FB, c1, c2, c3⟩ := Nw.ex
  have e1 : (Value.ref C :: bm).contains (.type Bn) = true := by
    rw [List.contains_cons, c1, Bool.or_true]
  have e0 := FB.noStar
  simp only [checkBuiltinCall, FB.newKind, FB.newSplit, FB.newRow]
  repeat (first | refine wpAny_loadPart_at hC ?_ | (refine wpAny_isSubtype_exc hC ?_; rw [e1]) | refine wpAny_staticBase_exc hC ?_ | refine wpAny_madeBy_exc hC ?_ | simp only [bne_self_eq_false, Bool.false_eq_true, if_false] | wp_step)
  exact q
theorem typeCall_any (Nw : NewOk newId bm) {more : List Value} {fI : Addr} {Q : Fin → Shared → Prop} (hC : hp.get? C = some (excClassObj n1 n2 C N b1 bm hd s1 s2 ab co d1 k0 k1 k2 k3 k5 newId))
    (hi : W.Looks (model prog w) hp (typeLookup (.ref C) "__init__") (some (.ref fI))) (hb : ∀ self, W.Looks (model prog w) hp (bindSpecial (.ref fI) self) (.ref fI, [self])) (hl : more.length ≤ sizeLine)
    (hq : codeAny (model prog w) A (.call (.ref fI) ⟨.ref (hp.objs.size + 1) :: more, []⟩) (fun res z => match res with | .ok (.ret v) => v = .none ∧ Q (.done (.ret (.ref (hp.objs.size + 1)))) z | .ok _ => False | .error er => E er z) ⟨(hp.push (W.kdv_tup more)).push (excO C hp.objs.size), ga, dw, tn, os⟩) :
    wpAny (model prog w) A (Builtin.«type.__call__» ⟨.ref C :: more, []⟩) Q E ⟨hp, ga, dw, tn, os⟩ := by
  obtain ⟨Bn, initn, bn, FB, _, _, _⟩ := id Nw.ex
  repeat (first | with_reducible refine wpAny_loadPart_at hC ?_ | with_reducible refine wpAny_madeBy_exc hC ?_ | wp_step)
  refine codeAny_call_builtin_code (Code.quiet_builtin _ FB.quiet) (check_any Nw hC ?_)
  refine new_any Nw hC hl ?_
  show wpAny _ _ _ _ _ _
  have up : ∀ b o, hp.get? b = some o → ((hp.push (W.kdv_tup more)).push (excO C hp.objs.size)).get? b = some o := fun b o z => Heap.get?_push_of_some _ (Heap.get?_push_of_some _ z)
  have hC2 := up _ _ hC
  have hE : ((hp.push (W.kdv_tup more)).push (excO C hp.objs.size)).get? (hp.objs.size + 1) = some (excO C hp.objs.size) := by heap_get
  have self_in : (Value.ref C :: bm).contains (.ref C) = true := by simp
  have l1 := hi.keeps up
  have l2 := (hb (.ref (hp.objs.size + 1))).keeps up
  unfold isInstance
  repeat (first | with_reducible refine wpAny_loadPart_at hE ?_ | (with_reducible refine wpAny_isSubtype_exc hC2 ?_; rw [self_in]) | wp_step)
  show wpAny _ _ (typeLookup (.ref C) _) _ _ _
  refine l1.at (wpAny_holding (wpAny_bind (l2.at ?_)))
  refine wpAny_bind (wpAny_call (codeAny_mono hq fun res z q => ?_))
  rcases res with er | (v | _ | _ | _) <;> first | exact q | exact q.elim | skip
  obtain ⟨rfl, q⟩ := q
  first
    | exact wpAny_pure (wpAny_pure q)
    | (wp_walk; exact q)
theorem call_any (Nw : NewOk newId bm) {more : List Value} {fI : Addr} (hC : hp.get? C = some (excClassObj n1 n2 C N b1 bm hd s1 s2 ab co d1 k0 k1 k2 k3 k5 newId))
    (hi : W.Looks (model prog w) hp (typeLookup (.ref C) "__init__") (some (.ref fI))) (hb : ∀ self, W.Looks (model prog w) hp (bindSpecial (.ref fI) self) (.ref fI, [self])) (hl : more.length ≤ sizeLine)
    (hq : codeAny (model prog w) (A.under (.builtin "type.__call__" ⟨.ref C :: more, []⟩)) (.call (.ref fI) ⟨.ref (hp.objs.size + 1) :: more, []⟩) (W.InitBack (hp.objs.size + 1) R) ⟨(hp.push (W.kdv_tup more)).push (excO C hp.objs.size), ga, dw, tn, os⟩) :
    codeAny (model prog w) A (.call (.ref C) ⟨more, []⟩) R ⟨hp, ga, dw, tn, os⟩ := by
  have g1 := tc_lookup
  have g2 := tc_bind (.ref C)
  have hty : (⟨hp, ga, dw, tn, os⟩ : Shared).TypeIs (.ref C) "type" := ⟨_, hC, rfl⟩
  refine codeAny_of_tree ?_
  show wpAny _ _ (callAny (.ref C) _) _ _ _
  repeat (any_goals (first | assumption | with_reducible refine wpAny_loadPart_at hC ?_ | wp_step))
  refine ⟨rfl, codeAny_call_builtin_at (Code.quiet_builtin _ (by decide +kernel)) entry_typeCall (wpAny_check_type_call_sub hC (typeCall_any Nw hC hi hb hl (codeAny_mono hq fun res z q => ?_)))⟩
  rcases res with er | (v | _ | _ | _) <;> exact q
end
end Oxb
end PySem
namespace Thr
open PySem PySem.Spec PyProof.Rows L2
/-! ### an own error straight over a built-in one (B), whose __init__ is walked as a def -/
structure OxC (K : PySem.W.Frag) (C : Addr) (B : String) : Prop where
  cls : ∃ nm q N bs bm sn sub ab col dd k0 k1 k2 k3 k5 newId, K.lookup C = some (excClassObj nm q C N bs bm true sn sub ab col dd k0 k1 k2 k3 k5 newId) ∧ PySem.Oxb.NewOk newId bm ∧ PySem.Oxb.InitOk B bm ∧ PySem.Oxb.MroOk (.ref C :: bm)
  sa : PySem.W.findIn K (.ref C) "__setattr__" = some (some (.builtin "object.__setattr__"))
  exC : PySem.W.subIn K (.ref C) (.type "BaseException") = some true
  tyC : PySem.W.typeIn K (.ref C) = some (.type "type")
  kC : PySem.W.keepIn K (.ref C) = true
section
variable {X : Cx} {pins : List (Addr × Obj)} {σ : L2.St} {H : Hp} {s : Shared} {a C dx : Addr} {f : Str} {y : V} {u : Value} {fs : List (Str × V)} {Q : Unit → Shared → Prop} {E : Value → Shared → Prop} {A : Around} {B : String}
theorem ox_first (T : OxC X.K C B) (I : Inv X pins σ H s) (e : H a = some (exo a C none)) (hno : PySem.W.findIn X.K (.ref C) f = some none) (ry : RelV y u)
    (h : ∀ dx s1, H dx = none → dx ≠ a → Inv X pins σ (upd (upd H dx (exd dx [(f, y)])) a (exo a C (some dx))) s1 → Q () s1) : wpAny (model X.prog X.w) A (setAttr (.ref a) f u) Q E s := by
  obtain ⟨nm, q, N, bs, bm, sn, sub, ab, col, dd, k0, k1, k2, k3, k5, newId, hC, _, _, hm⟩ := T.cls
  have hcl : ∃ cd, PySem.W.clsIn X.K C = some cd ∧ cd.mro = .ref C :: bm ∧ cd.hasDict = true := by
    unfold PySem.W.clsIn
    rw [hC]
    exact ⟨_, rfl, rfl, rfl⟩
  obtain ⟨cd, hcd, em, ehd⟩ := hcl
  obtain ⟨t1, ho⟩ := exo_at I.hok e
  obtain ⟨h0, gs, dr, tn, os⟩ := s
  refine PySem.W.set_plain I.kIn (ox := { cls := .ref C, dict := none, data := .fields #[.ref t1, .none, .none, .none, .bool false, .none] }) (od := none) ⟨ho, rfl, rfl, trivial⟩ T.sa ?_
  refine PySem.Oxb.store_first I.kIn ho hcd (em ▸ hm) ehd hno (fun h1 t2 dx kp hbig hne hx hn => ?_)
  have fresh : H dx = none := I.hok.fresh hbig
  have offD : ∀ {b : Addr} {o : Obj}, h0.get? b = some o → b ≠ dx := fun z => Nat.ne_of_lt (Nat.lt_of_lt_of_le (Heap.lt_size z) hbig)
  have offA : ∀ {b : Addr}, H b = none → b ≠ a := fun {b} z1 z2 => by
    rw [z2, e] at z1
    cases z1
  have U : Un X.fs [] H (upd (upd H dx (exd dx [(f, y)])) a (exo a C (some dx))) h0 h1 :=
    ⟨fun b o z n _ _ => kp b o (offA n) z, fun b o z n _ _ => ⟨o.slots, kp b o (offA n) z⟩, fun b o z n _ => by rw [upd_ne (offA n), upd_ne (offD z)]; exact n,
      fun b o z _ => by
        by_cases hb : b = a
        · exact ⟨_, hb ▸ hx⟩
        · exact ⟨o, kp b o hb z⟩,
      fun b xs z => by rw [upd_ne (at_ne e z exo_tup), upd_ne (ne_of_none z fresh)]; exact z,
      fun b o v z => by rw [upd_ne (at_ne e z exo_frz), upd_ne (ne_of_none z fresh)]; exact z,
      fun b ps z => ⟨#[], by rw [upd_ne (at_ne e z exo_tbl), upd_ne (ne_of_none z fresh), z]; simp⟩⟩
  refine h dx _ fresh hne (I.un (t' := t2) U fun b o z => ?_)
  by_cases hb : b = a
  · subst hb
    rw [upd_same] at z
    cases z
    exact exo_ok hx
  rw [upd_ne hb] at z
  by_cases hd : b = dx
  · subst hd
    rw [upd_same] at z
    cases z
    exact exd_ok hn (relO_put (fs := []) ry fun _ => True.intro)
  rw [upd_ne hd] at z
  refine (I.hok b o z).stay (fun c v hc z2 => kp c v (fun z3 => ?_) z2) (fun c hc => by rw [upd_ne (at_ne e hc exo_own), upd_ne (ne_of_none hc fresh)]; exact hc) (fun c xs hc => by rw [upd_ne (at_ne e hc exo_tup), upd_ne (ne_of_none hc fresh)]; exact hc)
  rcases hc with hc | hc
  · exact hb (hc.symm.trans z3)
  · exact at_ne e hc exo_own z3
theorem ox_more (T : OxC X.K C B) (I : Inv X pins σ H s) (e : H a = some (exo a C (some dx))) (ed : H dx = some (exd dx fs)) (hl : fs.length ≤ 900) (hno : PySem.W.findIn X.K (.ref C) f = some none) (ry : RelV y u)
    (h : ∀ s1, Inv X pins σ (upd H dx (exd dx ((f, y) :: fs))) s1 → Q () s1) : wpAny (model X.prog X.w) A (setAttr (.ref a) f u) Q E s := by
  obtain ⟨nm, q, N, bs, bm, sn, sub, ab, col, dd, k0, k1, k2, k3, k5, newId, hC, _, _, hm⟩ := T.cls
  have hcl : ∃ cd, PySem.W.clsIn X.K C = some cd ∧ cd.mro = .ref C :: bm ∧ cd.hasDict = true := by
    unfold PySem.W.clsIn
    rw [hC]
    exact ⟨_, rfl, rfl, rfl⟩
  obtain ⟨cd, hcd, em, ehd⟩ := hcl
  obtain ⟨t1, ho⟩ := exo_at I.hok e
  obtain ⟨mA, hns, rel⟩ := exd_at I.hok ed
  have hw := within_of rel
  obtain ⟨h0, gs, dr, tn, os⟩ := s
  obtain ⟨oD, _, _, hoD, _, _⟩ := hns.count hw
  refine PySem.W.set_plain I.kIn (ox := { cls := .ref C, dict := some dx, data := .fields #[.ref t1, .none, .none, .none, .bool false, .none] }) (od := some oD) ⟨ho, rfl, rfl, hoD⟩ T.sa ?_
  refine PySem.Oxb.store_more I.kIn ho hns hw (by rw [List.length_map]; omega) hcd (em ▸ hm) ehd hno (fun h1 t2 kp hn => ?_)
  obtain ⟨o2, _, _, e2, _⟩ := id hn
  exact h _ (I.write (t' := t2) (x := dx) (e := dx) (o := exd dx ((f, y) :: fs)) (by rw [ed]; exact True.intro) (.inl rfl) kp ⟨o2, e2⟩ (exd_ok hn (relO_put ry rel)))
theorem ox_init {us : List Value} {Q : Value → Shared → Prop} (T : OxC X.K C B) (I : Inv X pins σ H s) (e : H a = some (exo a C none)) (hl : us.length ≤ sizeLine) (h : ∀ s1, Inv X pins σ H s1 → Q .none s1) :
    wpAny (model X.prog X.w) A (call (.builtin (B ++ ".__init__")) (.ref a :: us)) Q E s := by
  obtain ⟨nm, q, N, bs, bm, sn, sub, ab, col, dd, k0, k1, k2, k3, k5, newId, hC, _, FB, _⟩ := T.cls
  obtain ⟨t1, ho⟩ := exo_at I.hok e
  obtain ⟨h0, gs, dr, tn, os⟩ := s
  refine wpAny_call (PySem.Oxb.init_any FB (I.kIn _ _ hC) ho hl fun h1 t2 kp hx => ?_)
  have J := I.write (t' := tn) (x := a) (e := a) (o := exo a C none) (by rw [e]; exact True.intro) (.inl rfl) kp ⟨_, hx⟩ (exo_ok hx)
  have same : upd H a (exo a C none) = H := funext fun b => by
    by_cases hb : b = a
    · rw [hb, upd_same, e]
    · rw [upd_ne hb]
  rw [same] at J
  exact h _ J
end
/-- B.__init__(self, ..) -/
def tBI (K : PySem.W.Frag) (B : String) (ta : TA) : TE := fun σ H Q => ta σ H fun vs H1 => ∃ (a C : Addr) (ws : List V), vs = .ref a :: ws ∧ ws.length ≤ 1000 ∧ OxC K C B ∧ H1 a = some (exo a C none) ∧ Q .non H1
/-- self.f = e -/
def tOxs (K : PySem.W.Frag) (f : Str) (to te : TE) : TS := fun D σ H => te σ H fun y H1 => to σ H1 fun x H2 => ∃ (a C : Addr) (B : String), x = .ref a ∧ OxC K C B ∧ PySem.W.findIn K (.ref C) f = some none ∧
  ((H2 a = some (exo a C none) ∧ ∀ dx, H2 dx = none → dx ≠ a → D.nx σ (upd (upd H2 dx (exd dx [(f, y)])) a (exo a C (some dx)))) ∨
    ∃ (dx : Addr) (fs : List (Str × V)), H2 a = some (exo a C (some dx)) ∧ H2 dx = some (exd dx fs) ∧ fs.length ≤ 900 ∧ D.nx σ (upd H2 dx (exd dx ((f, y) :: fs))))
section
variable {X : Cx} {o e : Expr} {es : List Expr} {to te : TE} {ta : TA} {f : Str} {p p' p1 p2 pos : Pos} {B : String}
/-- B's own facts: the name, its type, its __init__ -/
structure BInit (K : PySem.W.Frag) (B : String) : Prop where
  boot : bootBuiltins (Str.ofString B) = some (.type B)
  ty : typeOf (.type B) = pure (.type "type")
  stub : Manifest.isStub B = false
  fnd : PySem.W.findCls K (.type B) (.type "type") "__init__" = some (.val (.builtin (B ++ ".__init__")))
  out : PySem.W.handedIn (.builtin (B ++ ".__init__")) = true
  nn : Str.ofString B ≠ "__name__"
  nd : (Str.ofString B == ("__debug__" : Str)) = false
theorem pe_binit {pl : Sem Bool} (b : BInit X.K B) (hg : Gl X (Str.ofString B)) (hm : X.mg (Str.ofString B) = none) (ha : PA X (e :: es) ta)
    (hc : eval (.Call (.Attribute (.Name (Str.ofString B) p1) "__init__" p2) (e :: es) [] pos) X.env = (do
      let ov ← eval (.Name (Str.ofString B) p1) X.env
      standAt p2.atName
      let (fn, first) ← holding [ov] (getMethod ov "__init__" pl)
      callWith pos fn first (backTo pos (starEach (e :: es) X.env)) (backToKw pos (keywordEach [] X.env))) := by rfl)
    (he : starEach (e :: es) X.env = (false, eval e X.env) :: starEach es X.env := by rfl) (hpl : (backTo pos (starEach es X.env)).any (·.1) = false := by rfl) :
    PE X (.Call (.Attribute (.Name (Str.ofString B) p1) "__init__" p2) (e :: es) [] pos) (tBI X.K B ta) := by
  refine ⟨fun pins s σ H Q I rd => ?_⟩
  refine PySem.W.methodCall_KW (ld_blt I hg hm b.boot ?_ b.nn b.nd) hc
  obtain ⟨m, fr⟩ := I.fr
  refine PySem.W.method_type fr I.ok.mod.kin b.ty b.stub b.fnd b.out ?_
  show wpAny _ _ (callWith pos (Value.builtin (B ++ ".__init__")) [] (backTo pos (starEach (e :: es) X.env)) []) _ _ _
  refine PyProof.Rows.callWith_method1 (thn (ha.run pos pins _ σ H _ (I.tok _) rd) fun us s1 ⟨vs, H1, I1, r1, a, C, ws, ev, hl, T, ea, q⟩ => ?_) he hpl
  subst ev
  cases r1 with
  | cons ra rs =>
    cases ra
    exact ox_init T I1 ea (by rw [← Paired.length rs, sizeLine_eq]; omega) fun s2 J => ⟨.non, H1, J, rfl, q⟩
theorem ps_oxs (ho : PE X o to) (he : PE X e te) (hs : swapsWith e (some (.Attribute o f p')) pos.line X.env = pure false := by rfl) : PS X (.Assign [.Attribute o f p'] e pos) (tOxs X.K f to te) := by
  refine ⟨fun pins s σ H D I rd => plainObj_wpAny_Assign_Attribute (thn (he.run pins s σ H _ I rd) fun v s1 ⟨y, H1, I1, r1, q1⟩ => thn (ho.run pins s1 σ H1 _ I1 q1) fun u s2 ⟨z, H2, I2, r2, a, C, B, ez, T, hno, q⟩ => ?_) hs⟩
  subst ez
  cases r2
  rcases q with ⟨ea, q⟩ | ⟨dx, fs, ea, ed, hl, q⟩
  · exact ox_first T I2 ea hno r1 fun dx s3 n ne J => ⟨σ, _, J, q dx n ne⟩
  · exact ox_more T I2 ea ed hl hno r1 fun s3 J => ⟨σ, _, J, q⟩
end
/-- C(e, ..) as a value: tracked from then on -/
def tMkV (C : Addr) (sp : Sp) (ta : TA) : TE := fun σ H Q => ta σ H fun vs H1 => vs.length ≤ 1000 ∧ ∀ a, H1 a = none → sp (.ref a :: vs) (upd H1 a (exo a C none))
  (fun v H2 => v = .non ∧ ∃ (d : Addr) (fs : List (Str × V)), H2 a = some (exo a C (some d)) ∧ H2 d = some (exd d fs) ∧ Q (.ref a) (upd (upd H2 a (exv a C d)) d (.xd fs))) (fun _ _ _ => False)
section
variable {X : Cx} {e : Expr} {es : List Expr} {ta : TA} {p pos : Pos} {B : String} {CX : CXT} {x : Str} {C fI : Addr} {k : Nat} {fd : FuncData} {ps : List Str} {sp : Sp}
/-- the exception that its __init__ has left, as a value -/
theorem inv_value {pins : List (Addr × Obj)} {σ : L2.St} {H : Hp} {s : Shared} {a d : Addr} {fs : List (Str × V)} (I : Inv X pins σ H s) (ea : H a = some (exo a C (some d))) (ed : H d = some (exd d fs)) :
    Inv X pins σ (upd (upd H a (exv a C d)) d (.xd fs)) s := by
  obtain ⟨t1, h1⟩ := exo_at I.hok ea
  obtain ⟨mA, h2, rel⟩ := exd_at I.hok ed
  obtain ⟨od, es', ep', h3, h4, _⟩ := id h2
  have nda : d ≠ a := fun z => by
    rw [z, h1] at h3
    have z2 := Option.some.inj h3
    subst z2
    cases h4
  have I1 := I.write (t' := s.toks) (x := a) (e := a) (o := exv a C d) (h' := s.heap) (by rw [ea]; exact True.intro) (.inl rfl) (fun _ _ _ z => z) ⟨_, h1⟩ (exv_ok h1 rfl rfl rfl)
  have ed1 : (upd H a (exv a C d)) d = some (exd d fs) := by
    rw [upd_ne nda]
    exact ed
  exact I1.write (t' := s.toks) (x := d) (e := d) (o := .xd fs) (h' := s.heap) (by rw [ed1]; exact True.intro) (.inl rfl) (fun _ _ _ z => z) ⟨_, h3⟩ ⟨mA, h2, rel⟩
theorem run_ox {pins : List (Addr × Obj)} {σ : L2.St} {H1 : Hp} {vs : List V} {us : List Value} {hp : Heap} {gs : Array GenState} {dr : Drawn} {tk : Nat} {os : OsState} {Qk : V → Hp → Prop} {G : Value → Shared → Prop} (T : OxC X.K C B) (iC : PySem.W.findIn X.K (.ref C) "__init__" = some (some (.ref fI)))
    (tI : PySem.W.typeIn X.K (.ref fI) = some (.type "function")) (F1 : FnOk X.prog X.w X.K X.mg X.base CX k fI fd ps sp) (hr : Room (k + 1) X.A) (hb : Binds X.K fd ps []) (hx : Passes CX X (fun _ _ _ => False)) (I1 : Inv X pins σ H1 ⟨hp, gs, dr, tk, os⟩) (r1 : Vals vs us) (hz : vs.length ≤ 1000)
    (q1 : sp (.ref (hp.objs.size + 1) :: vs) (upd H1 (hp.objs.size + 1) (exo (hp.objs.size + 1) C none)) Qk (fun _ _ _ => False))
    (fin : ∀ (kk : ∀ b o, hp.get? b = some o → ((hp.push (PySem.W.kdv_tup us)).push (PySem.HandSPX.excO C hp.objs.size)).get? b = some o)
      (I2 : Inv X pins σ (upd H1 (hp.objs.size + 1) (exo (hp.objs.size + 1) C none)) ⟨(hp.push (PySem.W.kdv_tup us)).push (PySem.HandSPX.excO C hp.objs.size), gs, dr, tk, os⟩) (v : V) (u : Value) (H2 : Hp) (s2 : Shared), s2.os = os → AllBare s2.gens →
      Un (frs X.stack) [] (upd H1 (hp.objs.size + 1) (exo (hp.objs.size + 1) C none)) H2 ((hp.push (PySem.W.kdv_tup us)).push (PySem.HandSPX.excO C hp.objs.size)) s2.heap → HOk X.prog X.w H2 s2.heap → RelV v u → Qk v H2 → u = .none ∧ G (.ref (hp.objs.size + 1)) s2) :
    wpAny (model X.prog X.w) X.A (call (.ref C) us) G X.xe ⟨hp, gs, dr, tk, os⟩ := by
  obtain ⟨nm, q, N, bs, bm, sn, sub, ab, col, dd, k0, k1, k2, k3, k5, newId, hC, Nw, _, _⟩ := T.cls
  have kk : ∀ b o, hp.get? b = some o → ((hp.push (PySem.W.kdv_tup us)).push (PySem.HandSPX.excO C hp.objs.size)).get? b = some o := fun b o z => Heap.get?_push_of_some _ (Heap.get?_push_of_some _ z)
  have hE : ((hp.push (PySem.W.kdv_tup us)).push (PySem.HandSPX.excO C hp.objs.size)).get? (hp.objs.size + 1) = some (PySem.HandSPX.excO C hp.objs.size) := by heap_get
  have I2 := I1.laid (t' := tk) (a := hp.objs.size + 1) (o := exo (hp.objs.size + 1) C none) kk (Nat.le_succ _) (exo_ok hE)
  have r2 : Vals (V.ref (hp.objs.size + 1) :: vs) (Value.ref (hp.objs.size + 1) :: us) := .cons rfl r1
  have hl : (Value.ref (hp.objs.size + 1) :: us ++ []).length = ps.length := by
    rw [List.append_nil, ← r2.length]
    exact F1.len _ _ _ _ q1
  have bd := hb _ (Value.ref (hp.objs.size + 1) :: us) I2.kIn hl
  rw [List.append_nil] at bd
  refine wpAny_call (PySem.Oxb.call_any Nw (I1.kIn _ _ hC) (PySem.W.looks_findIn I1.kIn iC) (fun self => PySem.W.bind_fn I1.kIn self tI) (by rw [← Paired.length r1, sizeLine_eq]; omega)
    (codeAny_mono (F1.run _ X.stack _ _ ⟨Value.ref (hp.objs.size + 1) :: us, []⟩ (Value.ref (hp.objs.size + 1) :: us) _ _ (fun _ _ _ => False) (hr.make C us []) (I2.env0.make C us []) bd r2 q1) fun res s2 hq => ?_))
  cases res with
  | error er => exact hx pins σ _ _ er s2 I2 hq
  | ok fl =>
    cases fl with
    | ret u =>
      obtain ⟨v, H2, o2, b2, un2, ok2, rv, qv⟩ := hq
      exact fin kk I2 v u H2 s2 o2 b2 un2 ok2 rv qv
    | next => exact hq.elim
    | brk => exact hq.elim
    | cont => exact hq.elim
/-- raise C(e, ..) -/
theorem pmk_ox (T : OxC X.K C B) (iC : PySem.W.findIn X.K (.ref C) "__init__" = some (some (.ref fI))) (tI : PySem.W.typeIn X.K (.ref fI) = some (.type "function"))
    (F1 : FnOk X.prog X.w X.K X.mg X.base CX k fI fd ps sp) (hr : Room (k + 1) X.A) (hb : Binds X.K fd ps []) (hx : Passes CX X (fun _ _ _ => False)) (hg : Gl X x) (hm : X.mg x = some (.ref C)) (ha : PA X (e :: es) ta)
    (hdb : (x == ("__debug__" : Str)) = false := by decide) (he : starEach (e :: es) X.env = (false, eval e X.env) :: starEach es X.env := by rfl) (hpl : (backTo pos (starEach es X.env)).any (·.1) = false := by rfl) :
    PMk X (.Call (.Name x p) (e :: es) [] pos) (tMkO C sp [] ta) := by
  intro pins s σ H Q I rd
  refine wpAny_Call_Name_kw (ld_glob I hg hm ?_ hdb)
  refine PySem.W.callWith_K (h₀ := X.base) I.ok.mod.kin T.kC (thn (ha.run pos pins s σ H _ I rd) fun us s1 ⟨vs, H1, I1, r1, hz, q1⟩ => ⟨I1.kIn, ?_⟩) he hpl
  show wpAny _ _ (call (.ref C) us) _ _ _
  obtain ⟨hp, gs, dr, tk, os⟩ := s1
  have q2 := q1 (hp.objs.size + 1) (I1.hok.fresh (Nat.le_succ _))
  rw [List.append_nil] at q2
  refine run_ox T iC tI F1 hr hb hx I1 r1 hz q2 (fun kk I2 v u H2 s2 o2 b2 un2 ok2 rv qv => ?_)
  obtain ⟨ev, d, fs, ea, ed, hd1, q3⟩ := qv
  subst ev
  obtain ⟨h2, g2, d2, t2, os2⟩ := s2
  exact ⟨rv, mk_end (raises_own T.exC T.tyC) I1 (Nat.le_succ _) kk un2 ok2 o2 b2 ea ed hd1 q3⟩
theorem pe_mkv (T : OxC X.K C B) (iC : PySem.W.findIn X.K (.ref C) "__init__" = some (some (.ref fI))) (tI : PySem.W.typeIn X.K (.ref fI) = some (.type "function"))
    (F1 : FnOk X.prog X.w X.K X.mg X.base CX k fI fd ps sp) (hr : Room (k + 1) X.A) (hb : Binds X.K fd ps []) (hx : Passes CX X (fun _ _ _ => False)) (hg : Gl X x) (hm : X.mg x = some (.ref C)) (ha : PA X (e :: es) ta)
    (hdb : (x == ("__debug__" : Str)) = false := by decide) (he : starEach (e :: es) X.env = (false, eval e X.env) :: starEach es X.env := by rfl) (hpl : (backTo pos (starEach es X.env)).any (·.1) = false := by rfl) :
    PE X (.Call (.Name x p) (e :: es) [] pos) (tMkV C sp ta) := by
  refine ⟨fun pins s σ H Q I rd => ?_⟩
  refine wpAny_Call_Name_kw (ld_glob I hg hm ?_ hdb)
  refine PySem.W.callWith_K (h₀ := X.base) I.ok.mod.kin T.kC (thn (ha.run pos pins s σ H _ I rd) fun us s1 ⟨vs, H1, I1, r1, hz, q1⟩ => ⟨I1.kIn, ?_⟩) he hpl
  show wpAny _ _ (call (.ref C) us) _ _ _
  obtain ⟨hp, gs, dr, tk, os⟩ := s1
  have q2 := q1 (hp.objs.size + 1) (I1.hok.fresh (Nat.le_succ _))
  refine run_ox T iC tI F1 hr hb hx I1 r1 hz q2 (fun kk I2 v u H2 s2 o2 b2 un2 ok2 rv qv => ?_)
  obtain ⟨ev, d, fs, ea, ed, q3⟩ := qv
  subst ev
  exact ⟨rv, .ref (hp.objs.size + 1), _, inv_value (I2.call' (ch := []) o2 un2 ok2 b2 (fun _ z => nomatch z)) ea ed, rfl, q3⟩
end
/-! ### the built-in errors that own ones stand under -/
section
open PySem.Oxb
theorem cont_obj {C : Addr} {l : List Value} (h : l.contains (.type "object") = true) : (Value.ref C :: l).contains (.type "object") = true := by
  rw [List.contains_cons, h, Bool.or_true]
theorem new_VE : NewOk "ValueError.__new__" [.type "ValueError", .type "Exception", .type "BaseException", .type "object"] := ⟨_, _, _, PySem.F.excBase_ValueError, by decide +kernel, by decide +kernel, by decide +kernel⟩
theorem init_VE : InitOk "ValueError" [.type "ValueError", .type "Exception", .type "BaseException", .type "object"] :=
  ⟨PySem.F.excBase_ValueError.init.plain, PySem.F.excBase_ValueError.initEntry, PySem.F.excBase_ValueError.initKind, PySem.F.excBase_ValueError.initSplit, PySem.F.excBase_ValueError.initRow, PySem.F.excBase_ValueError.noStar, by decide +kernel⟩
theorem mro_VE (C : Addr) : MroOk (.ref C :: [.type "ValueError", .type "Exception", .type "BaseException", .type "object"]) :=
  ⟨fun self => by rw [refuseLoop_ref]; exact PySem.F.store_ValueError.passes self, cont_obj (by decide +kernel), rfl⟩
theorem new_KE : NewOk "LookupError.__new__" [.type "KeyError", .type "LookupError", .type "Exception", .type "BaseException", .type "object"] := ⟨_, _, _, PySem.F.excBase_LookupError, by decide +kernel, by decide +kernel, by decide +kernel⟩
theorem init_KE : InitOk "KeyError" [.type "KeyError", .type "LookupError", .type "Exception", .type "BaseException", .type "object"] where
  plain := by decide +kernel
  entry := entryFor_alias (id' := "BaseException.__init__") (by rw [fastTable_eq_tree]; kernel_rfl)
    (by first | rfl | decide +kernel) (by decide +kernel) (by rw [fastTable_eq_tree]; kernel_rfl)
  kind := by kernel_rfl
  split := by kernel_rfl
  row := by kernel_rfl
  star := by decide +kernel
  has := by decide +kernel
theorem mro_KE (C : Addr) : MroOk (.ref C :: [.type "KeyError", .type "LookupError", .type "Exception", .type "BaseException", .type "object"]) :=
  ⟨fun self => by rw [refuseLoop_ref]; kernel_rfl, cont_obj (by decide +kernel), rfl⟩
end
/-! ### further built-in errors that own ones stand under -/
section
open PySem.Oxb
theorem new_LE : NewOk "LookupError.__new__" [.type "LookupError", .type "Exception", .type "BaseException", .type "object"] := ⟨_, _, _, PySem.F.excBase_LookupError, by decide +kernel, by decide +kernel, by decide +kernel⟩
theorem init_LE : InitOk "LookupError" [.type "LookupError", .type "Exception", .type "BaseException", .type "object"] :=
  ⟨PySem.F.excBase_LookupError.init.plain, PySem.F.excBase_LookupError.initEntry, PySem.F.excBase_LookupError.initKind, PySem.F.excBase_LookupError.initSplit, PySem.F.excBase_LookupError.initRow, PySem.F.excBase_LookupError.noStar, by decide +kernel⟩
theorem mro_LE (C : Addr) : MroOk (.ref C :: [.type "LookupError", .type "Exception", .type "BaseException", .type "object"]) :=
  ⟨fun self => by rw [refuseLoop_ref]; kernel_rfl, cont_obj (by decide +kernel), rfl⟩
theorem new_IE : NewOk "IndexError.__new__" [.type "IndexError", .type "LookupError", .type "Exception", .type "BaseException", .type "object"] := ⟨_, _, _, PySem.F.excBase_IndexError, by decide +kernel, by decide +kernel, by decide +kernel⟩
theorem init_IE : InitOk "IndexError" [.type "IndexError", .type "LookupError", .type "Exception", .type "BaseException", .type "object"] :=
  ⟨PySem.F.excBase_IndexError.init.plain, PySem.F.excBase_IndexError.initEntry, PySem.F.excBase_IndexError.initKind, PySem.F.excBase_IndexError.initSplit, PySem.F.excBase_IndexError.initRow, PySem.F.excBase_IndexError.noStar, by decide +kernel⟩
theorem mro_IE (C : Addr) : MroOk (.ref C :: [.type "IndexError", .type "LookupError", .type "Exception", .type "BaseException", .type "object"]) :=
  ⟨fun self => by rw [refuseLoop_ref]; kernel_rfl, cont_obj (by decide +kernel), rfl⟩
theorem new_RE : NewOk "RuntimeError.__new__" [.type "RuntimeError", .type "Exception", .type "BaseException", .type "object"] := ⟨_, _, _, PySem.F.excBase_RuntimeError, by decide +kernel, by decide +kernel, by decide +kernel⟩
theorem init_RE : InitOk "RuntimeError" [.type "RuntimeError", .type "Exception", .type "BaseException", .type "object"] :=
  ⟨PySem.F.excBase_RuntimeError.init.plain, PySem.F.excBase_RuntimeError.initEntry, PySem.F.excBase_RuntimeError.initKind, PySem.F.excBase_RuntimeError.initSplit, PySem.F.excBase_RuntimeError.initRow, PySem.F.excBase_RuntimeError.noStar, by decide +kernel⟩
theorem mro_RE (C : Addr) : MroOk (.ref C :: [.type "RuntimeError", .type "Exception", .type "BaseException", .type "object"]) :=
  ⟨fun self => by rw [refuseLoop_ref]; kernel_rfl, cont_obj (by decide +kernel), rfl⟩
theorem new_AE : NewOk "ArithmeticError.__new__" [.type "ArithmeticError", .type "Exception", .type "BaseException", .type "object"] := ⟨_, _, _, PySem.F.excBase_ArithmeticError, by decide +kernel, by decide +kernel, by decide +kernel⟩
theorem init_AE : InitOk "ArithmeticError" [.type "ArithmeticError", .type "Exception", .type "BaseException", .type "object"] :=
  ⟨PySem.F.excBase_ArithmeticError.init.plain, PySem.F.excBase_ArithmeticError.initEntry, PySem.F.excBase_ArithmeticError.initKind, PySem.F.excBase_ArithmeticError.initSplit, PySem.F.excBase_ArithmeticError.initRow, PySem.F.excBase_ArithmeticError.noStar, by decide +kernel⟩
theorem mro_AE (C : Addr) : MroOk (.ref C :: [.type "ArithmeticError", .type "Exception", .type "BaseException", .type "object"]) :=
  ⟨fun self => by rw [refuseLoop_ref]; kernel_rfl, cont_obj (by decide +kernel), rfl⟩
theorem new_OE : NewOk "OverflowError.__new__" [.type "OverflowError", .type "ArithmeticError", .type "Exception", .type "BaseException", .type "object"] := ⟨_, _, _, PySem.F.excBase_OverflowError, by decide +kernel, by decide +kernel, by decide +kernel⟩
theorem init_OE : InitOk "OverflowError" [.type "OverflowError", .type "ArithmeticError", .type "Exception", .type "BaseException", .type "object"] :=
  ⟨PySem.F.excBase_OverflowError.init.plain, PySem.F.excBase_OverflowError.initEntry, PySem.F.excBase_OverflowError.initKind, PySem.F.excBase_OverflowError.initSplit, PySem.F.excBase_OverflowError.initRow, PySem.F.excBase_OverflowError.noStar, by decide +kernel⟩
theorem mro_OE (C : Addr) : MroOk (.ref C :: [.type "OverflowError", .type "ArithmeticError", .type "Exception", .type "BaseException", .type "object"]) :=
  ⟨fun self => by rw [refuseLoop_ref]; kernel_rfl, cont_obj (by decide +kernel), rfl⟩
end
end Thr
namespace PySem
namespace Oxb
open PySem.W PySem.Calls PyProof.Rows PySem.HandSPX
section
variable {prog : Program} {w : World} {A : Around} {E : Value → Shared → Prop} {R : Result → Shared → Prop} {hp : Heap} {ga : Array GenState} {dw : Drawn} {tn : Nat} {os : OsState}
variable {n1 n2 : Str} {C N : Addr} {b1 bm : List Value} {hd : Bool} {s1 : List Str} {s2 : List Value} {ab : Bool} {co : Option Bool} {d1 : Option Addr} {k0 k1 k2 k3 k5 : Option Value} {B newId : String}
theorem new_kw (Nw : NewOk newId bm) {more : List Value} {kw : List (Str × Value)} (hC : hp.get? C = some (excClassObj n1 n2 C N b1 bm hd s1 s2 ab co d1 k0 k1 k2 k3 k5 newId)) (hl : more.length ≤ sizeLine)
    (hq : R (.ok (.ret (.ref (hp.objs.size + 1)))) ⟨(hp.push { cls := .type "tuple", data := .seq more.toArray }).push { cls := .ref C, data := .fields #[.ref hp.objs.size, .none, .none, .none, .bool false, .none] }, ga, dw, tn, os⟩) :
    codeAny (model prog w) A (.builtin newId ⟨.ref C :: more, kw⟩) R ⟨hp, ga, dw, tn, os⟩ := by
  obtain ⟨Bn, initn, bn, FB, c1, c2, c3⟩ := Nw.ex
  have e0 := FB.ends
  have e1 : (Value.ref C :: bm).contains (.type Bn) = true := by
    rw [List.contains_cons, c1, Bool.or_true]
  have e2 : (Value.ref C :: bm).contains (.type "AttributeError") = false := by
    rw [List.contains_cons, c2]
    rfl
  have e3 : (Value.ref C :: bm).contains (.type "NameError") = false := by
    rw [List.contains_cons, c3]
    rfl
  refine codeAny_builtinAt FB.entry ?_
  unfold Builtin.«BaseException.__new__»
  refine wpAt_bind ?_
  show wpAt _ _ _ (stack >>= _) _ _ _
  refine wpAt_bind (wpAt_stack fun p below => wpAt_of_wpAny ?_)
  wp_walk
  refine wpAt_of_wpAny ?_
  rw [FB.owner]
  repeat (first | with_reducible refine wpAny_madeHere_exc FB.canon hC ?_ | with_reducible refine wpAny_loadPart_at hC ?_ | (with_reducible refine wpAny_isSubtype_exc hC ?_; first | rw [e1] | rw [e2] | rw [e3]) | wp_step)
  show R _ _
  rw [Heap.size_push]
  exact hq
theorem check_kw (Nw : NewOk newId bm) {M : Model} {more : List Value} {kw : List (Str × Value)} {Q : Unit → Shared → Prop} (hC : hp.get? C = some (excClassObj n1 n2 C N b1 bm hd s1 s2 ab co d1 k0 k1 k2 k3 k5 newId)) (q : Q () ⟨hp, ga, dw, tn, os⟩) :
    wpAny M A (checkBuiltinCall newId ⟨.ref C :: more, kw⟩) Q E ⟨hp, ga, dw, tn, os⟩ := by
  obtain ⟨Bn, initn, bn, FB, c1, c2, c3⟩ := Nw.ex
  have e1 : (Value.ref C :: bm).contains (.type Bn) = true := by
    rw [List.contains_cons, c1, Bool.or_true]
  have e0 := FB.noStar
  simp only [checkBuiltinCall, FB.newKind, FB.newSplit, FB.newRow]
  repeat (first | refine wpAny_loadPart_at hC ?_ | (refine wpAny_isSubtype_exc hC ?_; rw [e1]) | refine wpAny_staticBase_exc hC ?_ | refine wpAny_madeBy_exc hC ?_ | simp only [bne_self_eq_false, Bool.false_eq_true, if_false] | wp_step)
  exact q
theorem typeCall_kw (Nw : NewOk newId bm) {more : List Value} {kw : List (Str × Value)} {fI : Addr} {Q : Fin → Shared → Prop} (hC : hp.get? C = some (excClassObj n1 n2 C N b1 bm hd s1 s2 ab co d1 k0 k1 k2 k3 k5 newId))
    (hi : W.Looks (model prog w) hp (typeLookup (.ref C) "__init__") (some (.ref fI))) (hb : ∀ self, W.Looks (model prog w) hp (bindSpecial (.ref fI) self) (.ref fI, [self])) (hl : more.length ≤ sizeLine)
    (hq : codeAny (model prog w) A (.call (.ref fI) ⟨.ref (hp.objs.size + 1) :: more, kw⟩) (fun res z => match res with | .ok (.ret v) => v = .none ∧ Q (.done (.ret (.ref (hp.objs.size + 1)))) z | .ok _ => False | .error er => E er z) ⟨(hp.push (W.kdv_tup more)).push (excO C hp.objs.size), ga, dw, tn, os⟩) :
    wpAny (model prog w) A (Builtin.«type.__call__» ⟨.ref C :: more, kw⟩) Q E ⟨hp, ga, dw, tn, os⟩ := by
  obtain ⟨Bn, initn, bn, FB, _, _, _⟩ := id Nw.ex
  repeat (first | with_reducible refine wpAny_loadPart_at hC ?_ | with_reducible refine wpAny_madeBy_exc hC ?_ | wp_step)
  refine codeAny_call_builtin_code (Code.quiet_builtin _ FB.quiet) (check_kw Nw hC ?_)
  refine new_kw Nw hC hl ?_
  show wpAny _ _ _ _ _ _
  have up : ∀ b o, hp.get? b = some o → ((hp.push (W.kdv_tup more)).push (excO C hp.objs.size)).get? b = some o := fun b o z => Heap.get?_push_of_some _ (Heap.get?_push_of_some _ z)
  have hC2 := up _ _ hC
  have hE : ((hp.push (W.kdv_tup more)).push (excO C hp.objs.size)).get? (hp.objs.size + 1) = some (excO C hp.objs.size) := by heap_get
  have self_in : (Value.ref C :: bm).contains (.ref C) = true := by simp
  have l1 := hi.keeps up
  have l2 := (hb (.ref (hp.objs.size + 1))).keeps up
  unfold isInstance
  repeat (first | with_reducible refine wpAny_loadPart_at hE ?_ | (with_reducible refine wpAny_isSubtype_exc hC2 ?_; rw [self_in]) | wp_step)
  show wpAny _ _ (typeLookup (.ref C) _) _ _ _
  refine l1.at (wpAny_holding (wpAny_bind (l2.at ?_)))
  refine wpAny_bind (wpAny_call (codeAny_mono hq fun res z q => ?_))
  rcases res with er | (v | _ | _ | _) <;> first | exact q | exact q.elim | skip
  obtain ⟨rfl, q⟩ := q
  first
    | exact wpAny_pure (wpAny_pure q)
    | (wp_walk; exact q)
theorem call_kw (Nw : NewOk newId bm) {more : List Value} {kw : List (Str × Value)} {fI : Addr} (hC : hp.get? C = some (excClassObj n1 n2 C N b1 bm hd s1 s2 ab co d1 k0 k1 k2 k3 k5 newId))
    (hi : W.Looks (model prog w) hp (typeLookup (.ref C) "__init__") (some (.ref fI))) (hb : ∀ self, W.Looks (model prog w) hp (bindSpecial (.ref fI) self) (.ref fI, [self])) (hl : more.length ≤ sizeLine)
    (hq : codeAny (model prog w) (A.under (.builtin "type.__call__" ⟨.ref C :: more, kw⟩)) (.call (.ref fI) ⟨.ref (hp.objs.size + 1) :: more, kw⟩) (W.InitBack (hp.objs.size + 1) R) ⟨(hp.push (W.kdv_tup more)).push (excO C hp.objs.size), ga, dw, tn, os⟩) :
    codeAny (model prog w) A (.call (.ref C) ⟨more, kw⟩) R ⟨hp, ga, dw, tn, os⟩ := by
  have g1 := tc_lookup
  have g2 := tc_bind (.ref C)
  have hty : (⟨hp, ga, dw, tn, os⟩ : Shared).TypeIs (.ref C) "type" := ⟨_, hC, rfl⟩
  refine codeAny_of_tree ?_
  show wpAny _ _ (callAny (.ref C) _) _ _ _
  repeat (any_goals (first | assumption | with_reducible refine wpAny_loadPart_at hC ?_ | wp_step))
  refine ⟨rfl, codeAny_call_builtin_at (Code.quiet_builtin _ (by decide +kernel)) entry_typeCall (wpAny_check_type_call_sub hC (typeCall_kw Nw hC hi hb hl (codeAny_mono hq fun res z q => ?_)))⟩
  rcases res with er | (v | _ | _ | _) <;> exact q
end
end Oxb
end PySem
namespace Thr
open PySem PySem.Spec PyProof.Rows L2
/-! ### C(k=e, ..) as a value -/
def tMkVK (C : Addr) (sp : Sp) (gV : List V → List V → List V) (m : Nat) (tk : TA) : TE := fun σ H Q => tk σ H fun zs H1 => zs.length = m ∧ ∀ a, H1 a = none → sp (gV [.ref a] zs) (upd H1 a (exo a C none))
  (fun v H2 => v = .non ∧ ∃ (d : Addr) (fs : List (Str × V)), H2 a = some (exo a C (some d)) ∧ H2 d = some (exd d fs) ∧ Q (.ref a) (upd (upd H2 a (exv a C d)) d (.xd fs))) (fun _ _ _ => False)
section
variable {X : Cx} {kws : List Keyword} {tk : TA} {p pos : Pos} {B : String} {CX : CXT} {x : Str} {C fI : Addr} {k : Nat} {fd : FuncData} {ps ks : List Str} {sp : Sp} {g : List Value → List Value → List Value} {gV : List V → List V → List V}
theorem pe_mkvK (T : OxC X.K C B) (iC : PySem.W.findIn X.K (.ref C) "__init__" = some (some (.ref fI))) (tI : PySem.W.typeIn X.K (.ref fI) = some (.type "function"))
    (F1 : FnOk X.prog X.w X.K X.mg X.base CX k fI fd ps sp) (hr : Room (k + 1) X.A) (hb : KBn X.K fd ps 1 ks g gV) (hx : Passes CX X (fun _ _ _ => False)) (hg : Gl X x) (hm : X.mg x = some (.ref C)) (hkw : PK X kws tk)
    (hall : (backToKw pos (keywordEach kws X.env)).all (·.1.isSome) = true := by rfl) (hks : (backToKw pos (keywordEach kws X.env)).filterMap (·.1) = ks := by rfl) (hdb : (x == ("__debug__" : Str)) = false := by decide)
    (hpl : ((backTo pos (starEach [] X.env)).any (·.1) || (backToKw pos (keywordEach kws X.env)).any (·.1.isNone)) = false := by rfl) :
    PE X (.Call (.Name x p) [] kws pos) (tMkVK C sp gV ks.length tk) := by
  refine ⟨fun pins s σ H Q I rd => wpAny_Call_Name_kw (ld_glob I hg hm ?_ hdb)⟩
  refine PySem.W.callWith_KW0 (h₀ := X.base) I.ok.mod.kin T.kC hall ?_ hpl
  refine thn (hkw.run pos pins s σ H _ I rd) fun ws s1 ⟨zs, H1, I1, rz, l2, q1⟩ => ⟨I1.kIn, ?_⟩
  rw [hks]
  show wpAny _ _ (call (.ref C) [] (ks.zip ws)) _ _ _
  obtain ⟨hp, gs, dr, tk, os⟩ := s1
  have q2 := q1 (hp.objs.size + 1) (I1.hok.fresh (Nat.le_succ _))
  obtain ⟨nm, q, N, bs, bm, sn, sub, ab, col, dd, k0, k1, k2, k3, k5, newId, hC, Nw, _, _⟩ := T.cls
  have kk : ∀ b o, hp.get? b = some o → ((hp.push (PySem.W.kdv_tup [])).push (PySem.HandSPX.excO C hp.objs.size)).get? b = some o := fun b o z => Heap.get?_push_of_some _ (Heap.get?_push_of_some _ z)
  have hE : ((hp.push (PySem.W.kdv_tup [])).push (PySem.HandSPX.excO C hp.objs.size)).get? (hp.objs.size + 1) = some (PySem.HandSPX.excO C hp.objs.size) := by heap_get
  have I2 := I1.laid (t' := tk) (a := hp.objs.size + 1) (o := exo (hp.objs.size + 1) C none) kk (Nat.le_succ _) (exo_ok hE)
  have rs : Vals [V.ref (hp.objs.size + 1)] [Value.ref (hp.objs.size + 1)] := .cons rfl .nil
  have r2 := hb.rel rs rz
  refine wpAny_call (PySem.Oxb.call_kw (more := []) (kw := ks.zip ws) Nw (I1.kIn _ _ hC) (PySem.W.looks_findIn I1.kIn iC) (fun self => PySem.W.bind_fn I1.kIn self tI) (by decide)
    (codeAny_mono (F1.run _ X.stack _ _ ⟨[Value.ref (hp.objs.size + 1)], ks.zip ws⟩ (g [Value.ref (hp.objs.size + 1)] ws) (gV [V.ref (hp.objs.size + 1)] zs) _ (fun _ _ _ => False) (hr.make C [] _) (I2.env0.make C [] _) (hb.to _ _ ws I2.kIn rfl (rz.length.symm.trans l2)) r2 q2) fun res s2 hq => ?_))
  cases res with
  | error er => exact hx pins σ _ _ er s2 I2 hq
  | ok fl =>
    cases fl with
    | ret u =>
      obtain ⟨v, H2, o2, b2, un2, ok2, rv, ev, d, fs, ea, ed, q3⟩ := hq
      subst ev
      exact ⟨rv, .ref (hp.objs.size + 1), _, inv_value (I2.call' (ch := []) o2 un2 ok2 b2 (fun _ z => nomatch z)) ea ed, rfl, q3⟩
    | next => exact hq.elim
    | brk => exact hq.elim
    | cont => exact hq.elim
end
def top (i : Nat) : Stmt := PySem.Challenge.pw_threereckons_k05_errors_and_limits.main.body.getD i (.Pass ⟨0, 0, 0, 0⟩)
/-! ### own_copy, of data of any depth -/
abbrev s_own_copy : Stmt := top 3
abbrev N_own_copy : List Str := ["thing", "copied", "part"]
abbrev P_own_copy : List Str := ["thing"]
theorem sc_own_copy : FnScope N_own_copy P_own_copy (defScope s_own_copy) := ⟨rfl, rfl, rfl, by decide +kernel, rfl, by decide +kernel, by decide +kernel⟩
structure Ot (mg : Str → Option Value) : Prop where
  isinstance : mg "isinstance" = none
  list : mg "list" = none
  tuple : mg "tuple" = none
/-- data so deep at most, no list or tuple of more than 500 -/
inductive Sm : Nat → PyData → Prop where
  | non (n : Nat) : Sm n .none
  | bl (n : Nat) (b : Bool) : Sm n (.bool b)
  | int (n : Nat) (i : Int) : Sm n (.int i)
  | str (n : Nat) (x : Str) : Sm n (.str x)
  | lst (n : Nat) {ds : List PyData} (h : ds.length ≤ 500) (a : ∀ d ∈ ds, Sm n d) : Sm (n + 1) (.list ds)
  | tup (n : Nat) {ds : List PyData} (h : ds.length ≤ 500) (a : ∀ d ∈ ds, Sm n d) : Sm (n + 1) (.tuple ds)
section
variable {K : PySem.W.Frag} {H H' : Hp}
theorem Same.seqL {a : Addr} {xs : List V} (s : Same H H') (h : SqL K H a xs) : SqL K H' a xs := by
  rcases h with (h | ⟨o, h⟩) | h
  · exact .inl (.inl (s _ _ h))
  · exact .inl (.inr ⟨o, s _ _ h⟩)
  · exact .inr h
theorem Same.seqT {a : Addr} {xs : List V} (s : Same H H') (h : SqT K H a xs) : SqT K H' a xs := by
  rcases h with (h | ⟨o, h⟩) | h
  · exact .inl (.inl (s _ _ h))
  · exact .inl (.inr ⟨o, s _ _ h⟩)
  · exact .inr h
mutual
theorem dp_same (s : Same H H') : ∀ {v : V} {d : PyData}, Dp K H v d → Dp K H' v d
  | _, _, .non => .non
  | _, _, .bl b => .bl b
  | _, _, .int i => .int i
  | _, _, .str x => .str x
  | _, _, .lst h a => .lst (Same.seqL s h) (dpAll_same s a)
  | _, _, .tup h a => .tup (Same.seqT s h) (dpAll_same s a)
theorem dpAll_same (s : Same H H') : ∀ {vs : List V} {ds : List PyData}, DpAll K H vs ds → DpAll K H' vs ds
  | _, _, .nil => .nil
  | _, _, .cons h a => .cons (dp_same s h) (dpAll_same s a)
end
theorem dpAll_len : ∀ {vs : List V} {ds : List PyData}, DpAll K H vs ds → vs.length = ds.length
  | _, _, .nil => rfl
  | _, _, .cons _ a => by
    rw [List.length_cons, List.length_cons, dpAll_len a]
theorem dpAll_at : ∀ {vs : List V} {ds : List PyData}, DpAll K H vs ds → ∀ {i : Nat} {v : V}, vs[i]? = some v → ∃ d, ds[i]? = some d ∧ Dp K H v d
  | _, _, .cons h _, 0, _, e => ⟨_, rfl, by rw [← Option.some.inj e]; exact h⟩
  | _, _, .cons _ a, i + 1, _, e => dpAll_at a (i := i) e
theorem dpAll_snoc : ∀ {vs : List V} {ds : List PyData}, DpAll K H vs ds → ∀ {v : V} {d : PyData}, Dp K H v d → DpAll K H (vs ++ [v]) (ds ++ [d])
  | _, _, .nil, _, _, h => .cons h .nil
  | _, _, .cons h0 a, _, _, h => .cons h0 (dpAll_snoc a h)
theorem tyL {a : Addr} {xs : List V} (h : SqL K H a xs) : TyX K H (.ref a) (.type "list") := by
  rcases h with (h | ⟨o, h⟩) | ⟨o, its, n, l, c, _⟩
  · exact .base (.lst h)
  · exact .base (.frz h)
  · exact .kList l c
theorem tyT {a : Addr} {xs : List V} (h : SqT K H a xs) : TyX K H (.ref a) (.type "tuple") := by
  rcases h with (h | ⟨o, h⟩) | ⟨o, its, n, l, c, _⟩
  · exact .base (.tup h)
  · exact .fTuple h
  · exact .kTuple l c
theorem kitLT {t : String} {b : Bool} (h : kitB t "list" = some b) (h2 : b = false → kitB t "tuple" = some false) : PySem.W.kitAny K (.type t) [.type "list", .type "tuple"] = some b := by
  refine kitAny_cons (kit_ty h) (fun e => ?_) (fun e => e)
  rw [e]
  exact kitAny_cons (b := false) (kit_ty (h2 e)) (fun _ => kitAny_nil) (fun e => nomatch e)
end
/-- what is new in H', the address c left out -/
def Nw (H H' : Hp) : Hp := fun b => if H b = none then H' b else none
theorem Nw.sub {H H' : Hp} : Same (Nw H H') H' := fun b o e => by
  unfold Nw at e
  split at e
  · exact e
  · cases e
theorem Nw.mk {H H' : Hp} {b : Addr} {o : HO} (h : H b = none) (e : H' b = some o) : Nw H H' b = some o := by
  unfold Nw
  rw [if_pos h]
  exact e
theorem Nw.get {H H' : Hp} {b : Addr} {o : HO} (h : Nw H H' b = some o) : H b = none ∧ H' b = some o := by
  unfold Nw at h
  split at h
  · exact ⟨by assumption, h⟩
  · cases h
theorem kitLT2 {K : PySem.W.Frag} : PySem.W.kitAny K (.type "tuple") [.type "list", .type "tuple"] = some true :=
  kitAny_cons (b := false) (kit_ty (by decide +kernel)) (fun _ => kitAny_cons (b := true) (kit_ty (by decide +kernel)) (fun e => nomatch e) (fun _ => rfl)) (fun e => nomatch e)
def spOwnD (K : PySem.W.Frag) (n : Nat) : Sp := fun vs H Q _ => ∃ (x : V) (d : PyData), vs = [x] ∧ Dp K H x d ∧ Sm n d ∧ ∀ (H' : Hp) (y : V), Same H H' → Dp K (Nw H H') y d → Q y H'
section
variable {P : Program} {w : World} {K : PySem.W.Frag} {mg : Str → Option Value} {base : Heap}
theorem own_flat (T : Ot mg) (f : Addr) (cdv : Value) (A : Around) (outer : List Env) (s : Shared) (H : Hp) (Q : VK) (E : XK) {x : V} {t : String} (ty : ∀ H', TyX K H' x (.type t)) (k1 : kitB t "list" = some false) (k2 : kitB t "tuple" = some false) (q : ∀ H', Same H H' → Q x H') :
    ∃ t, PSs (cxOf CX0 P w K mg base N_own_copy "own_copy" (defScope s_own_copy) f cdv A outer s H E).nox (defBody s_own_copy) t ∧ t { nx := fun _ H' => Q .non H', rt := Q } (start N_own_copy [x]) H := by
  refine ⟨_, (pss_cons (ps_if (pt_not (pt_val (pe_callB call_isiT (by rfl) T.isinstance (by decide +kernel) (pa_cons (pv 0) (pa_cons (pe_tup (pa_cons (pe_bltn (v := .ty "list") rfl T.list (by decide +kernel) rfl) (pa_cons (pe_bltn (v := .ty "tuple") rfl T.tuple (by decide +kernel) rfl) pa_nil))) pa_nil)))))
      (pss_one (ps_ret (pv 0))) pss_nil) (pss_cons ps_never (pss_cons ps_never (pss_cons ps_never (pss_one ps_never))))), ?_⟩
  refine ⟨_, rfl, by show 2 ≤ sizeLine; decide, fun tp nt => ?_⟩
  refine ⟨x, tp, _, .type t, [.type "list", .type "tuple"], false, rfl, upd_same, .cons (.ty "list") (.cons (.ty "tuple") .nil), ty _, kitLT k1 (fun _ => k2), _, rfl, ?_⟩
  exact iteT ⟨_, rfl, q _ (same_upd nt)⟩
theorem ok_ownD (T : Ot mg) (D : Dd K mg "own_copy" s_own_copy P_own_copy) : ∀ n, C8.Cal P w K mg base (n + 1) "own_copy" (spOwnD K n) [] := by
  intro n
  induction n with
  | zero =>
    refine D.cal sc_own_copy (fun vs H Q E h => ?_) (fun f cdv A outer s H vs Q E hr h => ?_)
    · obtain ⟨x, d, rfl, _⟩ := h
      rfl
    · obtain ⟨x, d, rfl, hx, hs, q⟩ := h
      cases hs with
      | non => cases hx; exact own_flat T f cdv A outer s H Q E (fun _ => .base .non) (by decide +kernel) (by decide +kernel) fun H' e => q H' _ e .non
      | bl _ b => cases hx; exact own_flat T f cdv A outer s H Q E (fun _ => .base (.bl b)) (by decide +kernel) (by decide +kernel) fun H' e => q H' _ e (.bl b)
      | int _ i => cases hx; exact own_flat T f cdv A outer s H Q E (fun _ => .base (.int i)) (by decide +kernel) (by decide +kernel) fun H' e => q H' _ e (.int i)
      | str _ z => cases hx; exact own_flat T f cdv A outer s H Q E (fun _ => .base (.str z)) (by decide +kernel) (by decide +kernel) fun H' e => q H' _ e (.str z)
  | succ n cown_copy =>
    refine D.cal sc_own_copy (fun vs H Q E h => ?_) (fun f cdv A outer s H vs Q E hr h => ?_)
    · obtain ⟨x, d, rfl, _⟩ := h
      rfl
    · obtain ⟨x, d, rfl, hx, hs, q⟩ := h
      cases hs with
      | non => cases hx; exact own_flat T f cdv A outer s H Q E (fun _ => .base .non) (by decide +kernel) (by decide +kernel) fun H' e => q H' _ e .non
      | bl _ b => cases hx; exact own_flat T f cdv A outer s H Q E (fun _ => .base (.bl b)) (by decide +kernel) (by decide +kernel) fun H' e => q H' _ e (.bl b)
      | int _ i => cases hx; exact own_flat T f cdv A outer s H Q E (fun _ => .base (.int i)) (by decide +kernel) (by decide +kernel) fun H' e => q H' _ e (.int i)
      | str _ z => cases hx; exact own_flat T f cdv A outer s H Q E (fun _ => .base (.str z)) (by decide +kernel) (by decide +kernel) fun H' e => q H' _ e (.str z)
      | lst _ hlen hall =>
        rename_i ds
        cases hx with
        | lst hS hd =>
          rename_i a xs
          refine ⟨_, (pss_cons (ps_if (pt_not (pt_val (pe_callB call_isiT (by rfl) T.isinstance (by decide +kernel) (pa_cons (pv 0) (pa_cons (pe_tup (pa_cons (pe_bltn (v := .ty "list") rfl T.list (by decide +kernel) rfl) (pa_cons (pe_bltn (v := .ty "tuple") rfl T.tuple (by decide +kernel) rfl) pa_nil))) pa_nil)))))
                (pss_one (ps_ret (pv 0)))
                pss_nil)
              (pss_cons (ps_set (i := 1) sc_own_copy.nd rfl (Or.inl rfl) (pe_lst pa_nil))
              (pss_cons (ps_for PassesOwn.never rfl (pi_list (pv 0)) (pg_name (i := 2) sc_own_copy.nd rfl (Or.inl rfl))
                (pss_one (ps_expr (pe_bm PySem.F.plainAttrs_list PySem.F.slot_list_append PySem.F.type_list_append mt_append (pv 1) (pa_cons (C8.pe_c cown_copy hr (by omega) (by rfl) (pa_cons (pv 2) pa_nil)) pa_nil)))))
              (pss_cons (ps_if (pt_val (pe_callB call_isi (by rfl) T.isinstance (by decide +kernel) (pa_cons (pv 0) (pa_cons (pe_bltn (v := .ty "tuple") rfl T.tuple (by decide +kernel) rfl) pa_nil))))
                (pss_one (ps_ret (pe_callTy call_tuple_of (by rfl) T.tuple (by decide +kernel) (pa_cons (pv 1) pa_nil))))
                pss_nil)
              (pss_one (ps_ret (pv 1))))))), ?_⟩
          have lx := dpAll_len hd
          refine ⟨_, rfl, by show 2 ≤ sizeLine; decide, fun tp nt => ?_⟩
          have s1 := same_upd (o := .tup [.ty "list", .ty "tuple"]) nt
          refine ⟨.ref a, tp, _, .type "list", [.type "list", .type "tuple"], true, rfl, upd_same, .cons (.ty "list") (.cons (.ty "tuple") .nil), tyL (Same.seqL s1 hS), kitLT (by decide +kernel) (fun e => nomatch e), _, rfl, iteF ?_⟩
          refine ⟨by show 0 ≤ sizeLine; decide, fun c nc => ?_⟩
          have s2 := s1.trans (same_upd (o := .lst []) nc)
          have nc0 : H c = none := s1.free nc
          refine ⟨_, rfl, a, rfl, ⟨_, Same.seqL s2 hS⟩, for_list (K := K) (a := a) (xs := xs) (fun i σ H3 => ∃ y2 ys, σ = [some (.ref a), some (.ref c), y2] ∧ Same H H3 ∧ H3 c = some (.lst ys) ∧ DpAll K (Nw (upd H c (.lst [])) H3) ys (ds.take i) ∧ i ≤ ds.length)
            ⟨none, [], rfl, s2, upd_same, .nil, by omega⟩ (fun i σ H3 _ ⟨_, _, _, s3, _⟩ => Same.seqL s3 hS) ?_ ?_⟩
          · rintro i x σ H3 hxi ⟨y2, ys, rfl, s3, hc, hys, hi⟩
            obtain ⟨d, hdi, hdp⟩ := dpAll_at hd hxi
            have hi2 : i < ds.length := (List.getElem?_eq_some_iff.mp hdi).1
            have ly := dpAll_len hys
            rw [List.length_take] at ly
            refine ⟨_, rfl, .inl ⟨rfl, _, SqL.of hc⟩, _, rfl, x, d, rfl, dp_same s3 hdp, hall d (List.mem_of_getElem? hdi), fun H4 y s4 hy => ?_⟩
            refine ⟨c, ys, y, rfl, rfl, s4 _ _ hc, small1000 (by omega), ?_⟩
            refine ⟨_, ys ++ [y], rfl, fun b o e => ?_, upd_same, ?_, by omega⟩
            · rw [upd_ne (ne_of_none e nc0)]
              exact s4 _ _ (s3 _ _ e)
            · rw [List.take_add_one, hdi]
              refine dpAll_snoc (dpAll_same (fun b o e => ?_) hys) (dp_same (fun b o e => ?_) hy)
              · obtain ⟨e1, e2⟩ := Nw.get e
                have nb : b ≠ c := fun z => by
                  rw [z, upd_same] at e1
                  cases e1
                exact Nw.mk e1 (by rw [upd_ne nb]; exact s4 _ _ e2)
              · obtain ⟨e1, e2⟩ := Nw.get e
                have nb : b ≠ c := fun z => by
                  rw [z, hc] at e1
                  cases e1
                exact Nw.mk (by rw [upd_ne nb]; exact s3.free e1) (by rw [upd_ne nb]; exact e2)
          · rintro σ H3 ⟨y2, ys, rfl, s3, hc, hys, _⟩
            rw [lx, List.take_length] at hys
            have toN : ∀ H5, Same H3 H5 → Same (Nw (upd H c (.lst [])) H3) (Nw H H5) := fun H5 s5 b o e => by
              obtain ⟨e1, e2⟩ := Nw.get e
              have nb : b ≠ c := fun z => by
                rw [z, upd_same] at e1
                cases e1
              rw [upd_ne nb] at e1
              exact Nw.mk e1 (s5 _ _ e2)
            refine ⟨_, rfl, .ref a, .ty "tuple", .type "list", .type "tuple", false, rfl, .ty "tuple", tyL (Same.seqL s3 hS), kit_ty (by decide +kernel), _, rfl, iteF ?_⟩
            exact ⟨_, rfl, q _ _ s3 (.lst (SqL.of (Nw.mk nc0 hc)) (dpAll_same (toN _ (Same.refl _)) hys))⟩
      | tup _ hlen hall =>
        rename_i ds
        cases hx with
        | tup hS hd =>
          rename_i a xs
          refine ⟨_, (pss_cons (ps_if (pt_not (pt_val (pe_callB call_isiT (by rfl) T.isinstance (by decide +kernel) (pa_cons (pv 0) (pa_cons (pe_tup (pa_cons (pe_bltn (v := .ty "list") rfl T.list (by decide +kernel) rfl) (pa_cons (pe_bltn (v := .ty "tuple") rfl T.tuple (by decide +kernel) rfl) pa_nil))) pa_nil)))))
                (pss_one (ps_ret (pv 0)))
                pss_nil)
              (pss_cons (ps_set (i := 1) sc_own_copy.nd rfl (Or.inl rfl) (pe_lst pa_nil))
              (pss_cons (ps_for PassesOwn.never rfl (pi_tup (pv 0)) (pg_name (i := 2) sc_own_copy.nd rfl (Or.inl rfl))
                (pss_one (ps_expr (pe_bm PySem.F.plainAttrs_list PySem.F.slot_list_append PySem.F.type_list_append mt_append (pv 1) (pa_cons (C8.pe_c cown_copy hr (by omega) (by rfl) (pa_cons (pv 2) pa_nil)) pa_nil)))))
              (pss_cons (ps_if (pt_val (pe_callB call_isi (by rfl) T.isinstance (by decide +kernel) (pa_cons (pv 0) (pa_cons (pe_bltn (v := .ty "tuple") rfl T.tuple (by decide +kernel) rfl) pa_nil))))
                (pss_one (ps_ret (pe_callTy call_tuple_of (by rfl) T.tuple (by decide +kernel) (pa_cons (pv 1) pa_nil))))
                pss_nil)
              (pss_one (ps_ret (pv 1))))))), ?_⟩
          have lx := dpAll_len hd
          refine ⟨_, rfl, by show 2 ≤ sizeLine; decide, fun tp nt => ?_⟩
          have s1 := same_upd (o := .tup [.ty "list", .ty "tuple"]) nt
          refine ⟨.ref a, tp, _, .type "tuple", [.type "list", .type "tuple"], true, rfl, upd_same, .cons (.ty "list") (.cons (.ty "tuple") .nil), tyT (Same.seqT s1 hS), kitLT2, _, rfl, iteF ?_⟩
          refine ⟨by show 0 ≤ sizeLine; decide, fun c nc => ?_⟩
          have s2 := s1.trans (same_upd (o := .lst []) nc)
          have nc0 : H c = none := s1.free nc
          refine ⟨_, rfl, a, rfl, ⟨_, Same.seqT s2 hS⟩, for_tup (K := K) (a := a) (xs := xs) (fun i σ H3 => ∃ y2 ys, σ = [some (.ref a), some (.ref c), y2] ∧ Same H H3 ∧ H3 c = some (.lst ys) ∧ DpAll K (Nw (upd H c (.lst [])) H3) ys (ds.take i) ∧ i ≤ ds.length)
            ⟨none, [], rfl, s2, upd_same, .nil, by omega⟩ (fun i σ H3 _ ⟨_, _, _, s3, _⟩ => Same.seqT s3 hS) ?_ ?_⟩
          · rintro i x σ H3 hxi ⟨y2, ys, rfl, s3, hc, hys, hi⟩
            obtain ⟨d, hdi, hdp⟩ := dpAll_at hd hxi
            have hi2 : i < ds.length := (List.getElem?_eq_some_iff.mp hdi).1
            have ly := dpAll_len hys
            rw [List.length_take] at ly
            refine ⟨_, rfl, .inl ⟨rfl, _, SqL.of hc⟩, _, rfl, x, d, rfl, dp_same s3 hdp, hall d (List.mem_of_getElem? hdi), fun H4 y s4 hy => ?_⟩
            refine ⟨c, ys, y, rfl, rfl, s4 _ _ hc, small1000 (by omega), ?_⟩
            refine ⟨_, ys ++ [y], rfl, fun b o e => ?_, upd_same, ?_, by omega⟩
            · rw [upd_ne (ne_of_none e nc0)]
              exact s4 _ _ (s3 _ _ e)
            · rw [List.take_add_one, hdi]
              refine dpAll_snoc (dpAll_same (fun b o e => ?_) hys) (dp_same (fun b o e => ?_) hy)
              · obtain ⟨e1, e2⟩ := Nw.get e
                have nb : b ≠ c := fun z => by
                  rw [z, upd_same] at e1
                  cases e1
                exact Nw.mk e1 (by rw [upd_ne nb]; exact s4 _ _ e2)
              · obtain ⟨e1, e2⟩ := Nw.get e
                have nb : b ≠ c := fun z => by
                  rw [z, hc] at e1
                  cases e1
                exact Nw.mk (by rw [upd_ne nb]; exact s3.free e1) (by rw [upd_ne nb]; exact e2)
          · rintro σ H3 ⟨y2, ys, rfl, s3, hc, hys, _⟩
            rw [lx, List.take_length] at hys
            have toN : ∀ H5, Same H3 H5 → Same (Nw (upd H c (.lst [])) H3) (Nw H H5) := fun H5 s5 b o e => by
              obtain ⟨e1, e2⟩ := Nw.get e
              have nb : b ≠ c := fun z => by
                rw [z, upd_same] at e1
                cases e1
              rw [upd_ne nb] at e1
              exact Nw.mk e1 (s5 _ _ e2)
            refine ⟨_, rfl, .ref a, .ty "tuple", .type "tuple", .type "tuple", true, rfl, .ty "tuple", tyT (Same.seqT s3 hS), kit_ty (by decide +kernel), _, rfl, iteT ?_⟩
            refine ⟨_, rfl, c, ys, rfl, .inl ⟨SqL.of hc, fun l nl => ?_⟩⟩
            exact q _ _ (s3.trans (same_upd nl)) (.tup (SqT.of (Nw.mk (s3.free nl) upd_same)) (dpAll_same (toN _ (same_upd nl)) hys))
end
/-! ### the eighteen errors: what __init__ leaves -/
def spOneD (K : PySem.W.Frag) (C : Addr) (f : Str) (n : Nat) : Sp := fun vs H Q _ => ∃ (e : Addr) (x : V) (d : PyData), vs = [.ref e, x] ∧ Dp K H x d ∧ Sm n d ∧ H e = some (exo e C none) ∧
  ∀ (H' : Hp) (dd : Addr) (y : V), H dd = none → dd ≠ e → H' e = some (exo e C (some dd)) → H' dd = some (exd dd [(f, y)]) → But e H H' → Dp K (Nw H H') y d → Q .non H'
def spTwoD (K : PySem.W.Frag) (C : Addr) (f1 f2 : Str) (n : Nat) : Sp := fun vs H Q _ => ∃ (e : Addr) (x1 x2 : V) (d1 d2 : PyData), vs = [.ref e, x1, x2] ∧ Dp K H x1 d1 ∧ Sm n d1 ∧ Dp K H x2 d2 ∧ Sm n d2 ∧ H e = some (exo e C none) ∧
  ∀ (H' : Hp) (dd : Addr) (y1 y2 : V), H dd = none → dd ≠ e → H' e = some (exo e C (some dd)) → H' dd = some (exd dd [(f2, y2), (f1, y1)]) → But e H H' → Dp K (Nw H H') y1 d1 → Dp K (Nw H H') y2 d2 → Q .non H'
abbrev s_BadGrammar : Stmt := inClass (top 5) 0
abbrev N_BadGrammar : List Str := ["self", "part", "row"]
theorem sc_BadGrammar : FnScope N_BadGrammar N_BadGrammar (defScope s_BadGrammar) := ⟨rfl, rfl, rfl, by decide +kernel, rfl, by decide +kernel, by decide +kernel⟩
abbrev s_BadRow : Stmt := inClass (top 6) 0
abbrev N_BadRow : List Str := ["self", "row"]
theorem sc_BadRow : FnScope N_BadRow N_BadRow (defScope s_BadRow) := ⟨rfl, rfl, rfl, by decide +kernel, rfl, by decide +kernel, by decide +kernel⟩
abbrev s_BadText : Stmt := inClass (top 7) 0
abbrev N_BadText : List Str := ["self", "at"]
theorem sc_BadText : FnScope N_BadText N_BadText (defScope s_BadText) := ⟨rfl, rfl, rfl, by decide +kernel, rfl, by decide +kernel, by decide +kernel⟩
abbrev s_NoTree : Stmt := inClass (top 8) 0
abbrev N_NoTree : List Str := ["self", "thing"]
theorem sc_NoTree : FnScope N_NoTree N_NoTree (defScope s_NoTree) := ⟨rfl, rfl, rfl, by decide +kernel, rfl, by decide +kernel, by decide +kernel⟩
abbrev s_NoGiven : Stmt := inClass (top 9) 0
abbrev N_NoGiven : List Str := ["self", "thing"]
theorem sc_NoGiven : FnScope N_NoGiven N_NoGiven (defScope s_NoGiven) := ⟨rfl, rfl, rfl, by decide +kernel, rfl, by decide +kernel, by decide +kernel⟩
abbrev s_NotLet : Stmt := inClass (top 10) 0
abbrev N_NotLet : List Str := ["self", "op", "under"]
theorem sc_NotLet : FnScope N_NotLet N_NotLet (defScope s_NotLet) := ⟨rfl, rfl, rfl, by decide +kernel, rfl, by decide +kernel, by decide +kernel⟩
abbrev s_NoCap : Stmt := inClass (top 11) 0
abbrev N_NoCap : List Str := ["self", "under"]
theorem sc_NoCap : FnScope N_NoCap N_NoCap (defScope s_NoCap) := ⟨rfl, rfl, rfl, by decide +kernel, rfl, by decide +kernel, by decide +kernel⟩
abbrev s_NoName : Stmt := inClass (top 12) 0
abbrev N_NoName : List Str := ["self", "name"]
theorem sc_NoName : FnScope N_NoName N_NoName (defScope s_NoName) := ⟨rfl, rfl, rfl, by decide +kernel, rfl, by decide +kernel, by decide +kernel⟩
abbrev s_NoOp : Stmt := inClass (top 13) 0
abbrev N_NoOp : List Str := ["self", "op"]
theorem sc_NoOp : FnScope N_NoOp N_NoOp (defScope s_NoOp) := ⟨rfl, rfl, rfl, by decide +kernel, rfl, by decide +kernel, by decide +kernel⟩
abbrev s_NoRow : Stmt := inClass (top 14) 0
abbrev N_NoRow : List Str := ["self", "making"]
theorem sc_NoRow : FnScope N_NoRow N_NoRow (defScope s_NoRow) := ⟨rfl, rfl, rfl, by decide +kernel, rfl, by decide +kernel, by decide +kernel⟩
abbrev s_NoSpot : Stmt := inClass (top 15) 0
abbrev N_NoSpot : List Str := ["self", "spot"]
theorem sc_NoSpot : FnScope N_NoSpot N_NoSpot (defScope s_NoSpot) := ⟨rfl, rfl, rfl, by decide +kernel, rfl, by decide +kernel, by decide +kernel⟩
abbrev s_NoNode : Stmt := inClass (top 16) 0
abbrev N_NoNode : List Str := ["self", "path"]
theorem sc_NoNode : FnScope N_NoNode N_NoNode (defScope s_NoNode) := ⟨rfl, rfl, rfl, by decide +kernel, rfl, by decide +kernel, by decide +kernel⟩
abbrev s_Ring : Stmt := inClass (top 17) 0
abbrev N_Ring : List Str := ["self", "ring"]
theorem sc_Ring : FnScope N_Ring N_Ring (defScope s_Ring) := ⟨rfl, rfl, rfl, by decide +kernel, rfl, by decide +kernel, by decide +kernel⟩
abbrev s_Ringed : Stmt := inClass (top 18) 0
abbrev N_Ringed : List Str := ["self", "least", "ring"]
theorem sc_Ringed : FnScope N_Ringed N_Ringed (defScope s_Ringed) := ⟨rfl, rfl, rfl, by decide +kernel, rfl, by decide +kernel, by decide +kernel⟩
abbrev s_Clash : Stmt := inClass (top 19) 0
abbrev N_Clash : List Str := ["self", "clash"]
theorem sc_Clash : FnScope N_Clash N_Clash (defScope s_Clash) := ⟨rfl, rfl, rfl, by decide +kernel, rfl, by decide +kernel, by decide +kernel⟩
abbrev s_Taken : Stmt := inClass (top 20) 0
abbrev N_Taken : List Str := ["self", "name"]
theorem sc_Taken : FnScope N_Taken N_Taken (defScope s_Taken) := ⟨rfl, rfl, rfl, by decide +kernel, rfl, by decide +kernel, by decide +kernel⟩
abbrev s_Lacks : Stmt := inClass (top 21) 0
abbrev N_Lacks : List Str := ["self", "spots"]
theorem sc_Lacks : FnScope N_Lacks N_Lacks (defScope s_Lacks) := ⟨rfl, rfl, rfl, by decide +kernel, rfl, by decide +kernel, by decide +kernel⟩
abbrev s_TooMuch : Stmt := inClass (top 22) 0
abbrev N_TooMuch : List Str := ["self", "many"]
theorem sc_TooMuch : FnScope N_TooMuch N_TooMuch (defScope s_TooMuch) := ⟨rfl, rfl, rfl, by decide +kernel, rfl, by decide +kernel, by decide +kernel⟩
section
variable {K : PySem.W.Frag} {H H' : Hp} {e C : Addr}
theorem exo_lst {od : Option Addr} {xs : List V} : exo e C od ≠ .lst xs := fun z => by
  have z' : HO.ext _ = HO.lst xs := z
  cases z'
theorem exo_tup' {od : Option Addr} {xs : List V} : exo e C od ≠ .tup xs := fun z => by
  have z' : HO.ext _ = HO.tup xs := z
  cases z'
theorem exo_frz' {od : Option Addr} {o : Obj} {v : HO} : exo e C od ≠ .frz o v := fun z => by
  have z' : HO.ext _ = HO.frz o v := z
  cases z'
theorem off_exo {od : Option Addr} {a : Addr} {o : HO} (he : H e = some (exo e C od)) (h : H a = some o) (n : exo e C od ≠ o) : a ≠ e := fun z => by
  rw [z, he] at h
  exact n (Option.some.inj h)
mutual
theorem dp_but {od : Option Addr} (he : H e = some (exo e C od)) (s : But e H H') : ∀ {v : V} {d : PyData}, Dp K H v d → Dp K H' v d
  | _, _, .non => .non
  | _, _, .bl b => .bl b
  | _, _, .int i => .int i
  | _, _, .str x => .str x
  | _, _, .lst h a => .lst (by
    rcases h with (h | ⟨o, h⟩) | h
    · exact .inl (.inl (s _ _ (off_exo he h exo_lst) h))
    · exact .inl (.inr ⟨o, s _ _ (off_exo he h exo_frz') h⟩)
    · exact .inr h) (dpAll_but he s a)
  | _, _, .tup h a => .tup (by
    rcases h with (h | ⟨o, h⟩) | h
    · exact .inl (.inl (s _ _ (off_exo he h exo_tup') h))
    · exact .inl (.inr ⟨o, s _ _ (off_exo he h exo_frz') h⟩)
    · exact .inr h) (dpAll_but he s a)
theorem dpAll_but {od : Option Addr} (he : H e = some (exo e C od)) (s : But e H H') : ∀ {vs : List V} {ds : List PyData}, DpAll K H vs ds → DpAll K H' vs ds
  | _, _, .nil => .nil
  | _, _, .cons h a => .cons (dp_but he s h) (dpAll_but he s a)
end
end
section
variable {K : PySem.W.Frag} {C : Addr} {B : String} {n : Nat}
theorem one_left {f : Str} {m : Str} {Q : VK} {H : Hp} {e : Addr} {x : V} {d : PyData} (O : OxC K C B) (h1 : PySem.W.findIn K (.ref C) f = some none) (hx : Dp K H x d) (hs : Sm n d) (he : H e = some (exo e C none))
    (q : ∀ (H' : Hp) (dd : Addr) (y : V), H dd = none → dd ≠ e → H' e = some (exo e C (some dd)) → H' dd = some (exd dd [(f, y)]) → But e H H' → Dp K (Nw H H') y d → Q .non H') :
    tSeq (tDrop (tBI K B (tCons (tVar 0) (tCons (tC (.str m)) tNil)))) (tOxs K f (tVar 0) (tCall (spOwnD K n) [] E0 (tCons (tVar 1) tNil))) { nx := fun _ H' => Q .non H', rt := Q } [some (.ref e), some x] H := by
  refine ⟨_, rfl, e, C, _, rfl, by show 1 ≤ 1000; decide, O, he, ?_⟩
  refine ⟨_, rfl, x, d, rfl, hx, hs, fun H1 y s1 hy => ?_⟩
  refine ⟨_, rfl, e, C, B, rfl, O, h1, .inl ⟨s1 _ _ he, fun dd nd nde => ?_⟩⟩
  refine q _ dd y (s1.free nd) nde upd_same (by rw [upd_ne nde, upd_same]) (fun z o nz hz => ?_) (dp_same (fun z o hz => ?_) hy)
  · rw [upd_ne nz, upd_ne (ne_of_none (s1 _ _ hz) nd)]
    exact s1 _ _ hz
  · obtain ⟨e1, e2⟩ := Nw.get hz
    exact Nw.mk e1 (by rw [upd_ne (fun z2 => by rw [z2, he] at e1; cases e1), upd_ne (ne_of_none e2 nd)]; exact e2)
theorem two_left {f1 f2 : Str} {m : Str} {Q : VK} {H : Hp} {e : Addr} {x1 x2 : V} {d1 d2 : PyData} (O : OxC K C B) (h1 : PySem.W.findIn K (.ref C) f1 = some none) (h2 : PySem.W.findIn K (.ref C) f2 = some none) (hx1 : Dp K H x1 d1) (hs1 : Sm n d1) (hx2 : Dp K H x2 d2) (hs2 : Sm n d2) (he : H e = some (exo e C none))
    (q : ∀ (H' : Hp) (dd : Addr) (y1 y2 : V), H dd = none → dd ≠ e → H' e = some (exo e C (some dd)) → H' dd = some (exd dd [(f2, y2), (f1, y1)]) → But e H H' → Dp K (Nw H H') y1 d1 → Dp K (Nw H H') y2 d2 → Q .non H') :
    tSeq (tDrop (tBI K B (tCons (tVar 0) (tCons (tC (.str m)) tNil)))) (tSeq (tOxs K f1 (tVar 0) (tCall (spOwnD K n) [] E0 (tCons (tVar 1) tNil))) (tOxs K f2 (tVar 0) (tCall (spOwnD K n) [] E0 (tCons (tVar 2) tNil)))) { nx := fun _ H' => Q .non H', rt := Q } [some (.ref e), some x1, some x2] H := by
  refine ⟨_, rfl, e, C, _, rfl, by show 1 ≤ 1000; decide, O, he, ?_⟩
  refine ⟨_, rfl, x1, d1, rfl, hx1, hs1, fun H1 y1 s1 hy1 => ?_⟩
  refine ⟨_, rfl, e, C, B, rfl, O, h1, .inl ⟨s1 _ _ he, fun dd nd nde => ?_⟩⟩
  have b1 : But e H (upd (upd H1 dd (exd dd [(f1, y1)])) e (exo e C (some dd))) := fun z o nz hz => by
    rw [upd_ne nz, upd_ne (ne_of_none (s1 _ _ hz) nd)]
    exact s1 _ _ hz
  refine ⟨_, rfl, x2, d2, rfl, ?_, hs2, fun H2 y2 s2 hy2 => ?_⟩
  · exact dp_but he b1 hx2
  have e2 : H2 e = some (exo e C (some dd)) := s2 _ _ upd_same
  have g2 : H2 dd = some (exd dd [(f1, y1)]) := s2 _ _ (by rw [upd_ne nde, upd_same])
  refine ⟨_, rfl, e, C, B, rfl, O, h2, .inr ⟨dd, _, e2, g2, by show 1 ≤ 900; decide, ?_⟩⟩
  refine q _ dd y1 y2 (s1.free nd) nde (by rw [upd_ne nde.symm]; exact e2) upd_same (fun z o nz hz => ?_) (dp_same (fun z o hz => ?_) hy1) (dp_same (fun z o hz => ?_) hy2)
  · rw [upd_ne (ne_of_none (s1 _ _ hz) nd)]
    exact s2 _ _ (b1 _ _ nz hz)
  · obtain ⟨w1, w2⟩ := Nw.get hz
    have nze : z ≠ e := fun z2 => by
      rw [z2, he] at w1
      cases w1
    have nzd : z ≠ dd := ne_of_none w2 nd
    exact Nw.mk w1 (by rw [upd_ne nzd]; exact s2 _ _ (by rw [upd_ne nze, upd_ne nzd]; exact w2))
  · obtain ⟨w1, w2⟩ := Nw.get hz
    have nze : z ≠ e := fun z2 => by
      rw [z2, upd_same] at w1
      cases w1
    have nzd : z ≠ dd := fun z2 => by
      rw [z2, upd_ne nde, upd_same] at w1
      cases w1
    rw [upd_ne nze, upd_ne nzd] at w1
    exact Nw.mk (s1.free w1) (by rw [upd_ne nzd]; exact w2)
end
section
variable {P : Program} {w : World} {K : PySem.W.Frag} {mg : Str → Option Value} {base : Heap} {C : Addr}
theorem ok_BadGrammar {n : Nat} {f : Addr} {fd : FuncData} (cown_copy : C8.Cal P w K mg base (n + 1) "own_copy" (spOwnD K n) []) (F : L2.Fun K "__init__" "BadGrammar.__init__" s_BadGrammar f fd) (O : OxC K C "ValueError") (b : BInit K "ValueError") (mV : mg "ValueError" = none) (h1 : PySem.W.findIn K (.ref C) "part" = some none) (h2 : PySem.W.findIn K (.ref C) "row" = some none) :
    FnOk P w K mg base CX0 (n + 2) f fd N_BadGrammar (spTwoD K C "part" "row" n) := by
  refine F.ok sc_BadGrammar (fun vs H Q E h => ?_) (fun cdv A outer s H vs Q E hr h => ?_)
  · obtain ⟨e, x1, x2, d1, d2, rfl, _⟩ := h
    rfl
  · obtain ⟨e, x1, x2, d1, d2, rfl, hx1, hs1, hx2, hs2, he, q⟩ := h
    refine ⟨_, pss_cons (ps_expr (pe_binit b (by rfl) mV (pa_cons (pv 0) (pa_cons pe_str pa_nil)))) (pss_cons (ps_oxs (pv 0) (C8.pe_c cown_copy hr (by omega) (by rfl) (pa_cons (pv 1) pa_nil))) (pss_one (ps_oxs (pv 0) (C8.pe_c cown_copy hr (by omega) (by rfl) (pa_cons (pv 2) pa_nil))))), ?_⟩
    exact two_left O h1 h2 hx1 hs1 hx2 hs2 he q
theorem ok_BadRow {n : Nat} {f : Addr} {fd : FuncData} (cown_copy : C8.Cal P w K mg base (n + 1) "own_copy" (spOwnD K n) []) (F : L2.Fun K "__init__" "BadRow.__init__" s_BadRow f fd) (O : OxC K C "ValueError") (b : BInit K "ValueError") (mV : mg "ValueError" = none) (h1 : PySem.W.findIn K (.ref C) "row" = some none) :
    FnOk P w K mg base CX0 (n + 2) f fd N_BadRow (spOneD K C "row" n) := by
  refine F.ok sc_BadRow (fun vs H Q E h => ?_) (fun cdv A outer s H vs Q E hr h => ?_)
  · obtain ⟨e, x, d, rfl, _⟩ := h
    rfl
  · obtain ⟨e, x, d, rfl, hx, hs, he, q⟩ := h
    refine ⟨_, pss_cons (ps_expr (pe_binit b (by rfl) mV (pa_cons (pv 0) (pa_cons pe_str pa_nil)))) (pss_one (ps_oxs (pv 0) (C8.pe_c cown_copy hr (by omega) (by rfl) (pa_cons (pv 1) pa_nil)))), ?_⟩
    exact one_left O h1 hx hs he q
theorem ok_BadText {n : Nat} {f : Addr} {fd : FuncData} (cown_copy : C8.Cal P w K mg base (n + 1) "own_copy" (spOwnD K n) []) (F : L2.Fun K "__init__" "BadText.__init__" s_BadText f fd) (O : OxC K C "ValueError") (b : BInit K "ValueError") (mV : mg "ValueError" = none) (h1 : PySem.W.findIn K (.ref C) "at" = some none) :
    FnOk P w K mg base CX0 (n + 2) f fd N_BadText (spOneD K C "at" n) := by
  refine F.ok sc_BadText (fun vs H Q E h => ?_) (fun cdv A outer s H vs Q E hr h => ?_)
  · obtain ⟨e, x, d, rfl, _⟩ := h
    rfl
  · obtain ⟨e, x, d, rfl, hx, hs, he, q⟩ := h
    refine ⟨_, pss_cons (ps_expr (pe_binit b (by rfl) mV (pa_cons (pv 0) (pa_cons pe_str pa_nil)))) (pss_one (ps_oxs (pv 0) (C8.pe_c cown_copy hr (by omega) (by rfl) (pa_cons (pv 1) pa_nil)))), ?_⟩
    exact one_left O h1 hx hs he q
theorem ok_NoTree {n : Nat} {f : Addr} {fd : FuncData} (cown_copy : C8.Cal P w K mg base (n + 1) "own_copy" (spOwnD K n) []) (F : L2.Fun K "__init__" "NoTree.__init__" s_NoTree f fd) (O : OxC K C "ValueError") (b : BInit K "ValueError") (mV : mg "ValueError" = none) (h1 : PySem.W.findIn K (.ref C) "thing" = some none) :
    FnOk P w K mg base CX0 (n + 2) f fd N_NoTree (spOneD K C "thing" n) := by
  refine F.ok sc_NoTree (fun vs H Q E h => ?_) (fun cdv A outer s H vs Q E hr h => ?_)
  · obtain ⟨e, x, d, rfl, _⟩ := h
    rfl
  · obtain ⟨e, x, d, rfl, hx, hs, he, q⟩ := h
    refine ⟨_, pss_cons (ps_expr (pe_binit b (by rfl) mV (pa_cons (pv 0) (pa_cons pe_str pa_nil)))) (pss_one (ps_oxs (pv 0) (C8.pe_c cown_copy hr (by omega) (by rfl) (pa_cons (pv 1) pa_nil)))), ?_⟩
    exact one_left O h1 hx hs he q
theorem ok_NoGiven {n : Nat} {f : Addr} {fd : FuncData} (cown_copy : C8.Cal P w K mg base (n + 1) "own_copy" (spOwnD K n) []) (F : L2.Fun K "__init__" "NoGiven.__init__" s_NoGiven f fd) (O : OxC K C "ValueError") (b : BInit K "ValueError") (mV : mg "ValueError" = none) (h1 : PySem.W.findIn K (.ref C) "thing" = some none) :
    FnOk P w K mg base CX0 (n + 2) f fd N_NoGiven (spOneD K C "thing" n) := by
  refine F.ok sc_NoGiven (fun vs H Q E h => ?_) (fun cdv A outer s H vs Q E hr h => ?_)
  · obtain ⟨e, x, d, rfl, _⟩ := h
    rfl
  · obtain ⟨e, x, d, rfl, hx, hs, he, q⟩ := h
    refine ⟨_, pss_cons (ps_expr (pe_binit b (by rfl) mV (pa_cons (pv 0) (pa_cons pe_str pa_nil)))) (pss_one (ps_oxs (pv 0) (C8.pe_c cown_copy hr (by omega) (by rfl) (pa_cons (pv 1) pa_nil)))), ?_⟩
    exact one_left O h1 hx hs he q
theorem ok_NotLet {n : Nat} {f : Addr} {fd : FuncData} (cown_copy : C8.Cal P w K mg base (n + 1) "own_copy" (spOwnD K n) []) (F : L2.Fun K "__init__" "NotLet.__init__" s_NotLet f fd) (O : OxC K C "ValueError") (b : BInit K "ValueError") (mV : mg "ValueError" = none) (h1 : PySem.W.findIn K (.ref C) "op" = some none) (h2 : PySem.W.findIn K (.ref C) "under" = some none) :
    FnOk P w K mg base CX0 (n + 2) f fd N_NotLet (spTwoD K C "op" "under" n) := by
  refine F.ok sc_NotLet (fun vs H Q E h => ?_) (fun cdv A outer s H vs Q E hr h => ?_)
  · obtain ⟨e, x1, x2, d1, d2, rfl, _⟩ := h
    rfl
  · obtain ⟨e, x1, x2, d1, d2, rfl, hx1, hs1, hx2, hs2, he, q⟩ := h
    refine ⟨_, pss_cons (ps_expr (pe_binit b (by rfl) mV (pa_cons (pv 0) (pa_cons pe_str pa_nil)))) (pss_cons (ps_oxs (pv 0) (C8.pe_c cown_copy hr (by omega) (by rfl) (pa_cons (pv 1) pa_nil))) (pss_one (ps_oxs (pv 0) (C8.pe_c cown_copy hr (by omega) (by rfl) (pa_cons (pv 2) pa_nil))))), ?_⟩
    exact two_left O h1 h2 hx1 hs1 hx2 hs2 he q
theorem ok_NoCap {n : Nat} {f : Addr} {fd : FuncData} (cown_copy : C8.Cal P w K mg base (n + 1) "own_copy" (spOwnD K n) []) (F : L2.Fun K "__init__" "NoCap.__init__" s_NoCap f fd) (O : OxC K C "ValueError") (b : BInit K "ValueError") (mV : mg "ValueError" = none) (h1 : PySem.W.findIn K (.ref C) "under" = some none) :
    FnOk P w K mg base CX0 (n + 2) f fd N_NoCap (spOneD K C "under" n) := by
  refine F.ok sc_NoCap (fun vs H Q E h => ?_) (fun cdv A outer s H vs Q E hr h => ?_)
  · obtain ⟨e, x, d, rfl, _⟩ := h
    rfl
  · obtain ⟨e, x, d, rfl, hx, hs, he, q⟩ := h
    refine ⟨_, pss_cons (ps_expr (pe_binit b (by rfl) mV (pa_cons (pv 0) (pa_cons pe_str pa_nil)))) (pss_one (ps_oxs (pv 0) (C8.pe_c cown_copy hr (by omega) (by rfl) (pa_cons (pv 1) pa_nil)))), ?_⟩
    exact one_left O h1 hx hs he q
theorem ok_NoName {n : Nat} {f : Addr} {fd : FuncData} (cown_copy : C8.Cal P w K mg base (n + 1) "own_copy" (spOwnD K n) []) (F : L2.Fun K "__init__" "NoName.__init__" s_NoName f fd) (O : OxC K C "KeyError") (b : BInit K "KeyError") (mV : mg "KeyError" = none) (h1 : PySem.W.findIn K (.ref C) "name" = some none) :
    FnOk P w K mg base CX0 (n + 2) f fd N_NoName (spOneD K C "name" n) := by
  refine F.ok sc_NoName (fun vs H Q E h => ?_) (fun cdv A outer s H vs Q E hr h => ?_)
  · obtain ⟨e, x, d, rfl, _⟩ := h
    rfl
  · obtain ⟨e, x, d, rfl, hx, hs, he, q⟩ := h
    refine ⟨_, pss_cons (ps_expr (pe_binit b (by rfl) mV (pa_cons (pv 0) (pa_cons pe_str pa_nil)))) (pss_one (ps_oxs (pv 0) (C8.pe_c cown_copy hr (by omega) (by rfl) (pa_cons (pv 1) pa_nil)))), ?_⟩
    exact one_left O h1 hx hs he q
theorem ok_NoOp {n : Nat} {f : Addr} {fd : FuncData} (cown_copy : C8.Cal P w K mg base (n + 1) "own_copy" (spOwnD K n) []) (F : L2.Fun K "__init__" "NoOp.__init__" s_NoOp f fd) (O : OxC K C "KeyError") (b : BInit K "KeyError") (mV : mg "KeyError" = none) (h1 : PySem.W.findIn K (.ref C) "op" = some none) :
    FnOk P w K mg base CX0 (n + 2) f fd N_NoOp (spOneD K C "op" n) := by
  refine F.ok sc_NoOp (fun vs H Q E h => ?_) (fun cdv A outer s H vs Q E hr h => ?_)
  · obtain ⟨e, x, d, rfl, _⟩ := h
    rfl
  · obtain ⟨e, x, d, rfl, hx, hs, he, q⟩ := h
    refine ⟨_, pss_cons (ps_expr (pe_binit b (by rfl) mV (pa_cons (pv 0) (pa_cons pe_str pa_nil)))) (pss_one (ps_oxs (pv 0) (C8.pe_c cown_copy hr (by omega) (by rfl) (pa_cons (pv 1) pa_nil)))), ?_⟩
    exact one_left O h1 hx hs he q
theorem ok_NoRow {n : Nat} {f : Addr} {fd : FuncData} (cown_copy : C8.Cal P w K mg base (n + 1) "own_copy" (spOwnD K n) []) (F : L2.Fun K "__init__" "NoRow.__init__" s_NoRow f fd) (O : OxC K C "KeyError") (b : BInit K "KeyError") (mV : mg "KeyError" = none) (h1 : PySem.W.findIn K (.ref C) "making" = some none) :
    FnOk P w K mg base CX0 (n + 2) f fd N_NoRow (spOneD K C "making" n) := by
  refine F.ok sc_NoRow (fun vs H Q E h => ?_) (fun cdv A outer s H vs Q E hr h => ?_)
  · obtain ⟨e, x, d, rfl, _⟩ := h
    rfl
  · obtain ⟨e, x, d, rfl, hx, hs, he, q⟩ := h
    refine ⟨_, pss_cons (ps_expr (pe_binit b (by rfl) mV (pa_cons (pv 0) (pa_cons pe_str pa_nil)))) (pss_one (ps_oxs (pv 0) (C8.pe_c cown_copy hr (by omega) (by rfl) (pa_cons (pv 1) pa_nil)))), ?_⟩
    exact one_left O h1 hx hs he q
theorem ok_NoSpot {n : Nat} {f : Addr} {fd : FuncData} (cown_copy : C8.Cal P w K mg base (n + 1) "own_copy" (spOwnD K n) []) (F : L2.Fun K "__init__" "NoSpot.__init__" s_NoSpot f fd) (O : OxC K C "LookupError") (b : BInit K "LookupError") (mV : mg "LookupError" = none) (h1 : PySem.W.findIn K (.ref C) "spot" = some none) :
    FnOk P w K mg base CX0 (n + 2) f fd N_NoSpot (spOneD K C "spot" n) := by
  refine F.ok sc_NoSpot (fun vs H Q E h => ?_) (fun cdv A outer s H vs Q E hr h => ?_)
  · obtain ⟨e, x, d, rfl, _⟩ := h
    rfl
  · obtain ⟨e, x, d, rfl, hx, hs, he, q⟩ := h
    refine ⟨_, pss_cons (ps_expr (pe_binit b (by rfl) mV (pa_cons (pv 0) (pa_cons pe_str pa_nil)))) (pss_one (ps_oxs (pv 0) (C8.pe_c cown_copy hr (by omega) (by rfl) (pa_cons (pv 1) pa_nil)))), ?_⟩
    exact one_left O h1 hx hs he q
theorem ok_NoNode {n : Nat} {f : Addr} {fd : FuncData} (cown_copy : C8.Cal P w K mg base (n + 1) "own_copy" (spOwnD K n) []) (F : L2.Fun K "__init__" "NoNode.__init__" s_NoNode f fd) (O : OxC K C "IndexError") (b : BInit K "IndexError") (mV : mg "IndexError" = none) (h1 : PySem.W.findIn K (.ref C) "path" = some none) :
    FnOk P w K mg base CX0 (n + 2) f fd N_NoNode (spOneD K C "path" n) := by
  refine F.ok sc_NoNode (fun vs H Q E h => ?_) (fun cdv A outer s H vs Q E hr h => ?_)
  · obtain ⟨e, x, d, rfl, _⟩ := h
    rfl
  · obtain ⟨e, x, d, rfl, hx, hs, he, q⟩ := h
    refine ⟨_, pss_cons (ps_expr (pe_binit b (by rfl) mV (pa_cons (pv 0) (pa_cons pe_str pa_nil)))) (pss_one (ps_oxs (pv 0) (C8.pe_c cown_copy hr (by omega) (by rfl) (pa_cons (pv 1) pa_nil)))), ?_⟩
    exact one_left O h1 hx hs he q
theorem ok_Ring {n : Nat} {f : Addr} {fd : FuncData} (cown_copy : C8.Cal P w K mg base (n + 1) "own_copy" (spOwnD K n) []) (F : L2.Fun K "__init__" "Ring.__init__" s_Ring f fd) (O : OxC K C "RuntimeError") (b : BInit K "RuntimeError") (mV : mg "RuntimeError" = none) (h1 : PySem.W.findIn K (.ref C) "ring" = some none) :
    FnOk P w K mg base CX0 (n + 2) f fd N_Ring (spOneD K C "ring" n) := by
  refine F.ok sc_Ring (fun vs H Q E h => ?_) (fun cdv A outer s H vs Q E hr h => ?_)
  · obtain ⟨e, x, d, rfl, _⟩ := h
    rfl
  · obtain ⟨e, x, d, rfl, hx, hs, he, q⟩ := h
    refine ⟨_, pss_cons (ps_expr (pe_binit b (by rfl) mV (pa_cons (pv 0) (pa_cons pe_str pa_nil)))) (pss_one (ps_oxs (pv 0) (C8.pe_c cown_copy hr (by omega) (by rfl) (pa_cons (pv 1) pa_nil)))), ?_⟩
    exact one_left O h1 hx hs he q
theorem ok_Ringed {n : Nat} {f : Addr} {fd : FuncData} (cown_copy : C8.Cal P w K mg base (n + 1) "own_copy" (spOwnD K n) []) (F : L2.Fun K "__init__" "Ringed.__init__" s_Ringed f fd) (O : OxC K C "RuntimeError") (b : BInit K "RuntimeError") (mV : mg "RuntimeError" = none) (h1 : PySem.W.findIn K (.ref C) "least" = some none) (h2 : PySem.W.findIn K (.ref C) "ring" = some none) :
    FnOk P w K mg base CX0 (n + 2) f fd N_Ringed (spTwoD K C "least" "ring" n) := by
  refine F.ok sc_Ringed (fun vs H Q E h => ?_) (fun cdv A outer s H vs Q E hr h => ?_)
  · obtain ⟨e, x1, x2, d1, d2, rfl, _⟩ := h
    rfl
  · obtain ⟨e, x1, x2, d1, d2, rfl, hx1, hs1, hx2, hs2, he, q⟩ := h
    refine ⟨_, pss_cons (ps_expr (pe_binit b (by rfl) mV (pa_cons (pv 0) (pa_cons pe_str pa_nil)))) (pss_cons (ps_oxs (pv 0) (C8.pe_c cown_copy hr (by omega) (by rfl) (pa_cons (pv 1) pa_nil))) (pss_one (ps_oxs (pv 0) (C8.pe_c cown_copy hr (by omega) (by rfl) (pa_cons (pv 2) pa_nil))))), ?_⟩
    exact two_left O h1 h2 hx1 hs1 hx2 hs2 he q
theorem ok_Clash {n : Nat} {f : Addr} {fd : FuncData} (cown_copy : C8.Cal P w K mg base (n + 1) "own_copy" (spOwnD K n) []) (F : L2.Fun K "__init__" "Clash.__init__" s_Clash f fd) (O : OxC K C "RuntimeError") (b : BInit K "RuntimeError") (mV : mg "RuntimeError" = none) (h1 : PySem.W.findIn K (.ref C) "clash" = some none) :
    FnOk P w K mg base CX0 (n + 2) f fd N_Clash (spOneD K C "clash" n) := by
  refine F.ok sc_Clash (fun vs H Q E h => ?_) (fun cdv A outer s H vs Q E hr h => ?_)
  · obtain ⟨e, x, d, rfl, _⟩ := h
    rfl
  · obtain ⟨e, x, d, rfl, hx, hs, he, q⟩ := h
    refine ⟨_, pss_cons (ps_expr (pe_binit b (by rfl) mV (pa_cons (pv 0) (pa_cons pe_str pa_nil)))) (pss_one (ps_oxs (pv 0) (C8.pe_c cown_copy hr (by omega) (by rfl) (pa_cons (pv 1) pa_nil)))), ?_⟩
    exact one_left O h1 hx hs he q
theorem ok_Taken {n : Nat} {f : Addr} {fd : FuncData} (cown_copy : C8.Cal P w K mg base (n + 1) "own_copy" (spOwnD K n) []) (F : L2.Fun K "__init__" "Taken.__init__" s_Taken f fd) (O : OxC K C "RuntimeError") (b : BInit K "RuntimeError") (mV : mg "RuntimeError" = none) (h1 : PySem.W.findIn K (.ref C) "name" = some none) :
    FnOk P w K mg base CX0 (n + 2) f fd N_Taken (spOneD K C "name" n) := by
  refine F.ok sc_Taken (fun vs H Q E h => ?_) (fun cdv A outer s H vs Q E hr h => ?_)
  · obtain ⟨e, x, d, rfl, _⟩ := h
    rfl
  · obtain ⟨e, x, d, rfl, hx, hs, he, q⟩ := h
    refine ⟨_, pss_cons (ps_expr (pe_binit b (by rfl) mV (pa_cons (pv 0) (pa_cons pe_str pa_nil)))) (pss_one (ps_oxs (pv 0) (C8.pe_c cown_copy hr (by omega) (by rfl) (pa_cons (pv 1) pa_nil)))), ?_⟩
    exact one_left O h1 hx hs he q
theorem ok_Lacks {n : Nat} {f : Addr} {fd : FuncData} (cown_copy : C8.Cal P w K mg base (n + 1) "own_copy" (spOwnD K n) []) (F : L2.Fun K "__init__" "Lacks.__init__" s_Lacks f fd) (O : OxC K C "ArithmeticError") (b : BInit K "ArithmeticError") (mV : mg "ArithmeticError" = none) (h1 : PySem.W.findIn K (.ref C) "spots" = some none) :
    FnOk P w K mg base CX0 (n + 2) f fd N_Lacks (spOneD K C "spots" n) := by
  refine F.ok sc_Lacks (fun vs H Q E h => ?_) (fun cdv A outer s H vs Q E hr h => ?_)
  · obtain ⟨e, x, d, rfl, _⟩ := h
    rfl
  · obtain ⟨e, x, d, rfl, hx, hs, he, q⟩ := h
    refine ⟨_, pss_cons (ps_expr (pe_binit b (by rfl) mV (pa_cons (pv 0) (pa_cons pe_str pa_nil)))) (pss_one (ps_oxs (pv 0) (C8.pe_c cown_copy hr (by omega) (by rfl) (pa_cons (pv 1) pa_nil)))), ?_⟩
    exact one_left O h1 hx hs he q
theorem ok_TooMuch {n : Nat} {f : Addr} {fd : FuncData} (cown_copy : C8.Cal P w K mg base (n + 1) "own_copy" (spOwnD K n) []) (F : L2.Fun K "__init__" "TooMuch.__init__" s_TooMuch f fd) (O : OxC K C "OverflowError") (b : BInit K "OverflowError") (mV : mg "OverflowError" = none) (h1 : PySem.W.findIn K (.ref C) "many" = some none) :
    FnOk P w K mg base CX0 (n + 2) f fd N_TooMuch (spOneD K C "many" n) := by
  refine F.ok sc_TooMuch (fun vs H Q E h => ?_) (fun cdv A outer s H vs Q E hr h => ?_)
  · obtain ⟨e, x, d, rfl, _⟩ := h
    rfl
  · obtain ⟨e, x, d, rfl, hx, hs, he, q⟩ := h
    refine ⟨_, pss_cons (ps_expr (pe_binit b (by rfl) mV (pa_cons (pv 0) (pa_cons pe_str pa_nil)))) (pss_one (ps_oxs (pv 0) (C8.pe_c cown_copy hr (by omega) (by rfl) (pa_cons (pv 1) pa_nil)))), ?_⟩
    exact one_left O h1 hx hs he q
end
/-! ### errors held as values, and what they bear -/
def SeqO (o : HO) : Prop := (∃ xs, o = .lst xs) ∨ (∃ xs, o = .tup xs) ∨ ∃ o' v, o = .frz o' v
section
variable {K : PySem.W.Frag} {H H' : Hp}
mutual
theorem dp_tr (s : ∀ a o, SeqO o → H a = some o → H' a = some o) : ∀ {v : V} {d : PyData}, Dp K H v d → Dp K H' v d
  | _, _, .non => .non
  | _, _, .bl b => .bl b
  | _, _, .int i => .int i
  | _, _, .str x => .str x
  | _, _, .lst h a => .lst (by
    rcases h with (h | ⟨o, h⟩) | h
    · exact .inl (.inl (s _ _ (.inl ⟨_, rfl⟩) h))
    · exact .inl (.inr ⟨o, s _ _ (.inr (.inr ⟨_, _, rfl⟩)) h⟩)
    · exact .inr h) (dpAll_tr s a)
  | _, _, .tup h a => .tup (by
    rcases h with (h | ⟨o, h⟩) | h
    · exact .inl (.inl (s _ _ (.inr (.inl ⟨_, rfl⟩)) h))
    · exact .inl (.inr ⟨o, s _ _ (.inr (.inr ⟨_, _, rfl⟩)) h⟩)
    · exact .inr h) (dpAll_tr s a)
theorem dpAll_tr (s : ∀ a o, SeqO o → H a = some o → H' a = some o) : ∀ {vs : List V} {ds : List PyData}, DpAll K H vs ds → DpAll K H' vs ds
  | _, _, .nil => .nil
  | _, _, .cons h a => .cons (dp_tr s h) (dpAll_tr s a)
end
theorem exd_seq {d : Addr} {fs : List (Str × V)} : ¬ SeqO (exd d fs) := by
  rintro (⟨xs, z⟩ | ⟨xs, z⟩ | ⟨o', v, z⟩)
  · have z' : HO.ext _ = HO.lst xs := z
    cases z'
  · have z' : HO.ext _ = HO.tup xs := z
    cases z'
  · have z' : HO.ext _ = HO.frz o' v := z
    cases z'
theorem exo_seq {e C : Addr} {od : Option Addr} : ¬ SeqO (exo e C od) := by
  rintro (⟨xs, z⟩ | ⟨xs, z⟩ | ⟨o', v, z⟩)
  · exact exo_lst z
  · exact exo_tup' z
  · exact exo_frz' z
/-- an error of the class at C, its fields -/
def ErAt (H : Hp) (e C : Addr) (fs : List (Str × V)) : Prop := ∃ d, H e = some (exv e C d) ∧ H d = some (.xd fs)
theorem ErAt.same {e C : Addr} {fs : List (Str × V)} (h : ErAt H e C fs) (s : Same H H') : ErAt H' e C fs := by
  obtain ⟨d, h1, h2⟩ := h
  exact ⟨d, s _ _ h1, s _ _ h2⟩
/-- behind the making -/
theorem made_same {e C dd : Addr} {fs gs : List (Str × V)} (ne : H e = none) (nd : (upd H e (exo e C none)) dd = none) (b : But e (upd H e (exo e C none)) H') : Same H (upd (upd H' e (exv e C dd)) dd (.xd fs)) := fun z o hz => by
  have nze : z ≠ e := ne_of_none hz ne
  have hz2 : (upd H e (exo e C none)) z = some o := by
    rw [upd_ne nze]
    exact hz
  rw [upd_ne (ne_of_none hz2 nd), upd_ne nze]
  exact b _ _ nze hz2
theorem made_dp {e C dd : Addr} {fs gs : List (Str × V)} {y : V} {d : PyData} (he : H' e = some (exo e C (some dd))) (hd : H' dd = some (exd dd gs)) (h : Dp K (Nw (upd H e (exo e C none)) H') y d) : Dp K (upd (upd H' e (exv e C dd)) dd (.xd fs)) y d :=
  dp_tr (fun a o so ha => by
    obtain ⟨_, h2⟩ := Nw.get ha
    have n1 : a ≠ e := fun z => by
      rw [z, he] at h2
      cases h2
      exact exo_seq so
    have n2 : a ≠ dd := fun z => by
      rw [z, hd] at h2
      cases h2
      exact exd_seq so
    rw [upd_ne n2, upd_ne n1]
    exact h2) h
theorem mkv_one {C : Addr} {f : Str} {n : Nat} {x : V} {d : PyData} {Q : VK} (hx : Dp K H x d) (hs : Sm n d) (q : ∀ (G : Hp) (e : Addr) (y : V), Same H G → ErAt G e C [(f, y)] → Dp K G y d → Q (.ref e) G) :
    ∀ e, H e = none → spOneD K C f n [.ref e, x] (upd H e (exo e C none)) (fun v H2 => v = .non ∧ ∃ (d : Addr) (fs : List (Str × V)), H2 e = some (exo e C (some d)) ∧ H2 d = some (exd d fs) ∧ Q (.ref e) (upd (upd H2 e (exv e C d)) d (.xd fs))) (fun _ _ _ => False) := by
  intro e ne
  refine ⟨e, x, d, rfl, dp_same (same_upd ne) hx, hs, upd_same, fun H' dd y nd nde he hd b hy => ⟨rfl, dd, _, he, hd, ?_⟩⟩
  refine q _ e y (made_same (gs := []) ne nd b) ⟨dd, by rw [upd_ne nde.symm, upd_same], upd_same⟩ (made_dp he hd hy)
theorem mkv_two {C : Addr} {f1 f2 : Str} {n : Nat} {x1 x2 : V} {d1 d2 : PyData} {Q : VK} (hx1 : Dp K H x1 d1) (hs1 : Sm n d1) (hx2 : Dp K H x2 d2) (hs2 : Sm n d2)
    (q : ∀ (G : Hp) (e : Addr) (y1 y2 : V), Same H G → ErAt G e C [(f2, y2), (f1, y1)] → Dp K G y1 d1 → Dp K G y2 d2 → Q (.ref e) G) :
    ∀ e, H e = none → spTwoD K C f1 f2 n [.ref e, x1, x2] (upd H e (exo e C none)) (fun v H2 => v = .non ∧ ∃ (d : Addr) (fs : List (Str × V)), H2 e = some (exo e C (some d)) ∧ H2 d = some (exd d fs) ∧ Q (.ref e) (upd (upd H2 e (exv e C d)) d (.xd fs))) (fun _ _ _ => False) := by
  intro e ne
  refine ⟨e, x1, x2, d1, d2, rfl, dp_same (same_upd ne) hx1, hs1, dp_same (same_upd ne) hx2, hs2, upd_same, fun H' dd y1 y2 nd nde he hd b hy1 hy2 => ⟨rfl, dd, _, he, hd, ?_⟩⟩
  exact q _ e y1 y2 (made_same (gs := []) ne nd b) ⟨dd, by rw [upd_ne nde.symm, upd_same], upd_same⟩ (made_dp he hd hy1) (made_dp he hd hy2)
end
/-! ### all eighteen, by place and by name -/
structure MkC (P : Program) (w : World) (K : PySem.W.Frag) (mg : Str → Option Value) (base : Heap) (k : Nat) (x : Str) (C : Addr) (sp : Sp) : Prop where
  ex : ∃ (B : String) (fI : Addr) (fd : FuncData) (ps : List Str), OxC K C B ∧ PySem.W.findIn K (.ref C) "__init__" = some (some (.ref fI)) ∧ PySem.W.typeIn K (.ref fI) = some (.type "function") ∧ FnOk P w K mg base CX0 k fI fd ps sp ∧ Binds K fd ps [] ∧ mg x = some (.ref C)
structure MkK (P : Program) (w : World) (K : PySem.W.Frag) (mg : Str → Option Value) (base : Heap) (k : Nat) (x : Str) (C : Addr) (sp : Sp) (ks : List Str) (gV : List V → List V → List V) : Prop where
  ex : ∃ (B : String) (fI : Addr) (fd : FuncData) (ps : List Str) (g : List Value → List Value → List Value), OxC K C B ∧ PySem.W.findIn K (.ref C) "__init__" = some (some (.ref fI)) ∧ PySem.W.typeIn K (.ref fI) = some (.type "function") ∧ FnOk P w K mg base CX0 k fI fd ps sp ∧ KBn K fd ps 1 ks g gV ∧ mg x = some (.ref C)
section
variable {X : Cx} {e : Expr} {es : List Expr} {kws : List Keyword} {ta tk : TA} {p pos : Pos} {x : Str} {C : Addr} {k j : Nat} {ks : List Str} {sp : Sp} {gV : List V → List V → List V}
theorem pe_mk (c : MkC X.prog X.w X.K X.mg X.base k x C sp) (hr : Room j X.A) (hk : k + 1 ≤ j) (hg : Gl X x) (ha : PA X (e :: es) ta) (hdb : (x == ("__debug__" : Str)) = false := by decide)
    (he : starEach (e :: es) X.env = (false, eval e X.env) :: starEach es X.env := by rfl) (hpl : (backTo pos (starEach es X.env)).any (·.1) = false := by rfl) : PE X (.Call (.Name x p) (e :: es) [] pos) (tMkV C sp ta) := by
  obtain ⟨B, fI, fd, ps, T, iC, tI, F, b, m⟩ := c.ex
  exact pe_mkv T iC tI F (hr.mono hk) b pass0 hg m ha hdb he hpl
theorem pe_mkK (c : MkK X.prog X.w X.K X.mg X.base k x C sp ks gV) (hr : Room j X.A) (hk : k + 1 ≤ j) (hg : Gl X x) (hkw : PK X kws tk)
    (hall : (backToKw pos (keywordEach kws X.env)).all (·.1.isSome) = true := by rfl) (hks : (backToKw pos (keywordEach kws X.env)).filterMap (·.1) = ks := by rfl) (hdb : (x == ("__debug__" : Str)) = false := by decide)
    (hpl : ((backTo pos (starEach [] X.env)).any (·.1) || (backToKw pos (keywordEach kws X.env)).any (·.1.isNone)) = false := by rfl) : PE X (.Call (.Name x p) [] kws pos) (tMkVK C sp gV ks.length tk) := by
  obtain ⟨B, fI, fd, ps, g, T, iC, tI, F, b, m⟩ := c.ex
  exact pe_mkvK T iC tI F (hr.mono hk) b pass0 hg m hkw hall hks hdb hpl
end
def fl : Nat → Str × Option Str
  | 0 => ("part", some "row")
  | 1 => ("row", none)
  | 2 => ("at", none)
  | 3 => ("thing", none)
  | 4 => ("thing", none)
  | 5 => ("op", some "under")
  | 6 => ("under", none)
  | 7 => ("name", none)
  | 8 => ("op", none)
  | 9 => ("making", none)
  | 10 => ("spot", none)
  | 11 => ("path", none)
  | 12 => ("ring", none)
  | 13 => ("least", some "ring")
  | 14 => ("clash", none)
  | 15 => ("name", none)
  | 16 => ("spots", none)
  | 17 => ("many", none)
  | _ => ("", none)
def ErK (K : PySem.W.Frag) (H : Hp) (e C : Addr) (i : Nat) (da db : PyData) : Prop := match fl i with
  | (f1, some f2) => ∃ y1 y2, ErAt H e C [(f2, y2), (f1, y1)] ∧ Dp K H y1 da ∧ Dp K H y2 db
  | (f1, none) => ∃ y, ErAt H e C [(f1, y)] ∧ Dp K H y da
def Ers (K : PySem.W.Frag) (H : Hp) (CA : Nat → Addr) (es : List Addr) (da db : PyData) : Prop := es.length = 18 ∧ ∀ i e, es[i]? = some e → ErK K H e (CA i) i da db
def spMade (K : PySem.W.Frag) (CA : Nat → Addr) : Sp := fun vs H Q _ => ∃ (xa xb : V) (da db : PyData), vs = [xa, xb] ∧ Dp K H xa da ∧ Sm 4 da ∧ Dp K H xb db ∧ Sm 4 db ∧
  ∀ (H' : Hp) (l : Addr) (es : List Addr), Same H H' → H' l = some (.lst (es.map V.ref)) → Ers K H' CA es da db → Q (.ref l) H'
structure Mks (P : Program) (w : World) (K : PySem.W.Frag) (mg : Str → Option Value) (base : Heap) (CA : Nat → Addr) : Prop where
  p0 : MkC P w K mg base 6 "BadGrammar" (CA 0) (spTwoD K (CA 0) "part" "row" 4)
  k0 : MkK P w K mg base 6 "BadGrammar" (CA 0) (spTwoD K (CA 0) "part" "row" 4) ["row", "part"] (fun vs zs => vs ++ zs.reverse)
  p1 : MkC P w K mg base 6 "BadRow" (CA 1) (spOneD K (CA 1) "row" 4)
  k1 : MkK P w K mg base 6 "BadRow" (CA 1) (spOneD K (CA 1) "row" 4) ["row"] (fun vs zs => vs ++ zs)
  p2 : MkC P w K mg base 6 "BadText" (CA 2) (spOneD K (CA 2) "at" 4)
  k2 : MkK P w K mg base 6 "BadText" (CA 2) (spOneD K (CA 2) "at" 4) ["at"] (fun vs zs => vs ++ zs)
  p3 : MkC P w K mg base 6 "NoTree" (CA 3) (spOneD K (CA 3) "thing" 4)
  k3 : MkK P w K mg base 6 "NoTree" (CA 3) (spOneD K (CA 3) "thing" 4) ["thing"] (fun vs zs => vs ++ zs)
  p4 : MkC P w K mg base 6 "NoGiven" (CA 4) (spOneD K (CA 4) "thing" 4)
  k4 : MkK P w K mg base 6 "NoGiven" (CA 4) (spOneD K (CA 4) "thing" 4) ["thing"] (fun vs zs => vs ++ zs)
  p5 : MkC P w K mg base 6 "NotLet" (CA 5) (spTwoD K (CA 5) "op" "under" 4)
  k5 : MkK P w K mg base 6 "NotLet" (CA 5) (spTwoD K (CA 5) "op" "under" 4) ["under", "op"] (fun vs zs => vs ++ zs.reverse)
  p6 : MkC P w K mg base 6 "NoCap" (CA 6) (spOneD K (CA 6) "under" 4)
  k6 : MkK P w K mg base 6 "NoCap" (CA 6) (spOneD K (CA 6) "under" 4) ["under"] (fun vs zs => vs ++ zs)
  p7 : MkC P w K mg base 6 "NoName" (CA 7) (spOneD K (CA 7) "name" 4)
  k7 : MkK P w K mg base 6 "NoName" (CA 7) (spOneD K (CA 7) "name" 4) ["name"] (fun vs zs => vs ++ zs)
  p8 : MkC P w K mg base 6 "NoOp" (CA 8) (spOneD K (CA 8) "op" 4)
  k8 : MkK P w K mg base 6 "NoOp" (CA 8) (spOneD K (CA 8) "op" 4) ["op"] (fun vs zs => vs ++ zs)
  p9 : MkC P w K mg base 6 "NoRow" (CA 9) (spOneD K (CA 9) "making" 4)
  k9 : MkK P w K mg base 6 "NoRow" (CA 9) (spOneD K (CA 9) "making" 4) ["making"] (fun vs zs => vs ++ zs)
  p10 : MkC P w K mg base 6 "NoSpot" (CA 10) (spOneD K (CA 10) "spot" 4)
  k10 : MkK P w K mg base 6 "NoSpot" (CA 10) (spOneD K (CA 10) "spot" 4) ["spot"] (fun vs zs => vs ++ zs)
  p11 : MkC P w K mg base 6 "NoNode" (CA 11) (spOneD K (CA 11) "path" 4)
  k11 : MkK P w K mg base 6 "NoNode" (CA 11) (spOneD K (CA 11) "path" 4) ["path"] (fun vs zs => vs ++ zs)
  p12 : MkC P w K mg base 6 "Ring" (CA 12) (spOneD K (CA 12) "ring" 4)
  k12 : MkK P w K mg base 6 "Ring" (CA 12) (spOneD K (CA 12) "ring" 4) ["ring"] (fun vs zs => vs ++ zs)
  p13 : MkC P w K mg base 6 "Ringed" (CA 13) (spTwoD K (CA 13) "least" "ring" 4)
  k13 : MkK P w K mg base 6 "Ringed" (CA 13) (spTwoD K (CA 13) "least" "ring" 4) ["ring", "least"] (fun vs zs => vs ++ zs.reverse)
  p14 : MkC P w K mg base 6 "Clash" (CA 14) (spOneD K (CA 14) "clash" 4)
  k14 : MkK P w K mg base 6 "Clash" (CA 14) (spOneD K (CA 14) "clash" 4) ["clash"] (fun vs zs => vs ++ zs)
  p15 : MkC P w K mg base 6 "Taken" (CA 15) (spOneD K (CA 15) "name" 4)
  k15 : MkK P w K mg base 6 "Taken" (CA 15) (spOneD K (CA 15) "name" 4) ["name"] (fun vs zs => vs ++ zs)
  p16 : MkC P w K mg base 6 "Lacks" (CA 16) (spOneD K (CA 16) "spots" 4)
  k16 : MkK P w K mg base 6 "Lacks" (CA 16) (spOneD K (CA 16) "spots" 4) ["spots"] (fun vs zs => vs ++ zs)
  p17 : MkC P w K mg base 6 "TooMuch" (CA 17) (spOneD K (CA 17) "many" 4)
  k17 : MkK P w K mg base 6 "TooMuch" (CA 17) (spOneD K (CA 17) "many" 4) ["many"] (fun vs zs => vs ++ zs)
abbrev s__law_made : Stmt := top 30
abbrev N__law_made : List Str := ["_law_a", "_law_b", "_law_found"]
abbrev P__law_made : List Str := ["_law_a", "_law_b"]
theorem sc__law_made : FnScope N__law_made P__law_made (defScope s__law_made) := ⟨rfl, rfl, rfl, by decide +kernel, rfl, by decide +kernel, by decide +kernel⟩
abbrev s__law_called : Stmt := top 31
abbrev N__law_called : List Str := ["_law_a", "_law_b", "_law_found"]
abbrev P__law_called : List Str := ["_law_a", "_law_b"]
theorem sc__law_called : FnScope N__law_called P__law_called (defScope s__law_called) := ⟨rfl, rfl, rfl, by decide +kernel, rfl, by decide +kernel, by decide +kernel⟩
section
variable {P : Program} {w : World} {K : PySem.W.Frag} {mg : Str → Option Value} {base : Heap} {CA : Nat → Addr}
theorem ok_made (M : Mks P w K mg base CA) (D : Dd K mg "_law_made" s__law_made P__law_made) : C8.Cal P w K mg base 8 "_law_made" (spMade K CA) [] := by
  refine D.cal sc__law_made (fun vs H Q E h => ?_) (fun f cdv A outer s H vs Q E hr h => ?_)
  · obtain ⟨xa, xb, da, db, rfl, _⟩ := h
    rfl
  · obtain ⟨xa, xb, da, db, rfl, ha, sa, hb, sb, q⟩ := h
    refine ⟨_, (pss_cons (ps_set (i := 2) sc__law_made.nd rfl (Or.inl rfl) (pe_lst (pa_cons (pe_mk M.p0 hr (by decide) (by rfl) (pa_cons (pv 0) (pa_cons (pv 1) pa_nil))) (pa_cons (pe_mk M.p1 hr (by decide) (by rfl) (pa_cons (pv 0) pa_nil)) (pa_cons (pe_mk M.p2 hr (by decide) (by rfl) (pa_cons (pv 0) pa_nil)) (pa_cons (pe_mk M.p3 hr (by decide) (by rfl) (pa_cons (pv 0) pa_nil)) (pa_cons (pe_mk M.p4 hr (by decide) (by rfl) (pa_cons (pv 0) pa_nil)) (pa_cons (pe_mk M.p5 hr (by decide) (by rfl) (pa_cons (pv 0) (pa_cons (pv 1) pa_nil))) (pa_cons (pe_mk M.p6 hr (by decide) (by rfl) (pa_cons (pv 0) pa_nil)) (pa_cons (pe_mk M.p7 hr (by decide) (by rfl) (pa_cons (pv 0) pa_nil)) (pa_cons (pe_mk M.p8 hr (by decide) (by rfl) (pa_cons (pv 0) pa_nil)) pa_nil)))))))))))
        (pss_cons (ps_set (i := 2) sc__law_made.nd rfl (Or.inl rfl) (pe_op op_cat (pv 2) (pe_lst (pa_cons (pe_mk M.p9 hr (by decide) (by rfl) (pa_cons (pv 0) pa_nil)) (pa_cons (pe_mk M.p10 hr (by decide) (by rfl) (pa_cons (pv 0) pa_nil)) (pa_cons (pe_mk M.p11 hr (by decide) (by rfl) (pa_cons (pv 0) pa_nil)) (pa_cons (pe_mk M.p12 hr (by decide) (by rfl) (pa_cons (pv 0) pa_nil)) (pa_cons (pe_mk M.p13 hr (by decide) (by rfl) (pa_cons (pv 0) (pa_cons (pv 1) pa_nil))) (pa_cons (pe_mk M.p14 hr (by decide) (by rfl) (pa_cons (pv 0) pa_nil)) (pa_cons (pe_mk M.p15 hr (by decide) (by rfl) (pa_cons (pv 0) pa_nil)) (pa_cons (pe_mk M.p16 hr (by decide) (by rfl) (pa_cons (pv 0) pa_nil)) pa_nil)))))))))))
        (pss_one (ps_ret (pe_op op_cat (pv 2) (pe_lst (pa_cons (pe_mk M.p17 hr (by decide) (by rfl) (pa_cons (pv 0) pa_nil)) pa_nil))))))), ?_⟩
    have z0 : Same H H := Same.refl H
    refine ⟨_, rfl, _, rfl, by show 2 ≤ 1000; decide, fun e0 n0 => ⟨e0, xa, xb, da, db, rfl, dp_same (same_upd n0) (dp_same z0 ha), sa, dp_same (same_upd n0) (dp_same z0 hb), sb, upd_same, fun K0 dd0 y0 u0 nd0 nde0 he0 hd0 hb0 hy0 hu0 => ⟨rfl, dd0, _, he0, hd0, ?_⟩⟩⟩
    have p0 := made_dp (fs := [("row", u0), ("part", y0)]) he0 hd0 hy0
    have v0 := made_dp (fs := [("row", u0), ("part", y0)]) he0 hd0 hu0
    have s0 := made_same (fs := [("row", u0), ("part", y0)]) (gs := []) n0 nd0 hb0
    have r0 : ErAt (upd (upd K0 e0 (exv e0 (CA 0) dd0)) dd0 (.xd [("row", u0), ("part", y0)])) e0 (CA 0) [("row", u0), ("part", y0)] := ⟨dd0, (upd_ne (Ne.symm nde0)).trans upd_same, upd_same⟩
    have a0 := Same.trans z0 s0
    refine ⟨_, rfl, by show 1 ≤ 1000; decide, fun e1 n1 => ⟨e1, xa, da, rfl, dp_same (same_upd n1) (dp_same a0 ha), sa, upd_same, fun K1 dd1 y1 nd1 nde1 he1 hd1 hb1 hy1 => ⟨rfl, dd1, _, he1, hd1, ?_⟩⟩⟩
    have p1 := made_dp (fs := [("row", y1)]) he1 hd1 hy1
    have s1 := made_same (fs := [("row", y1)]) (gs := []) n1 nd1 hb1
    have r1 : ErAt (upd (upd K1 e1 (exv e1 (CA 1) dd1)) dd1 (.xd [("row", y1)])) e1 (CA 1) [("row", y1)] := ⟨dd1, (upd_ne (Ne.symm nde1)).trans upd_same, upd_same⟩
    have a1 := Same.trans a0 s1
    refine ⟨_, rfl, by show 1 ≤ 1000; decide, fun e2 n2 => ⟨e2, xa, da, rfl, dp_same (same_upd n2) (dp_same a1 ha), sa, upd_same, fun K2 dd2 y2 nd2 nde2 he2 hd2 hb2 hy2 => ⟨rfl, dd2, _, he2, hd2, ?_⟩⟩⟩
    have p2 := made_dp (fs := [("at", y2)]) he2 hd2 hy2
    have s2 := made_same (fs := [("at", y2)]) (gs := []) n2 nd2 hb2
    have r2 : ErAt (upd (upd K2 e2 (exv e2 (CA 2) dd2)) dd2 (.xd [("at", y2)])) e2 (CA 2) [("at", y2)] := ⟨dd2, (upd_ne (Ne.symm nde2)).trans upd_same, upd_same⟩
    have a2 := Same.trans a1 s2
    refine ⟨_, rfl, by show 1 ≤ 1000; decide, fun e3 n3 => ⟨e3, xa, da, rfl, dp_same (same_upd n3) (dp_same a2 ha), sa, upd_same, fun K3 dd3 y3 nd3 nde3 he3 hd3 hb3 hy3 => ⟨rfl, dd3, _, he3, hd3, ?_⟩⟩⟩
    have p3 := made_dp (fs := [("thing", y3)]) he3 hd3 hy3
    have s3 := made_same (fs := [("thing", y3)]) (gs := []) n3 nd3 hb3
    have r3 : ErAt (upd (upd K3 e3 (exv e3 (CA 3) dd3)) dd3 (.xd [("thing", y3)])) e3 (CA 3) [("thing", y3)] := ⟨dd3, (upd_ne (Ne.symm nde3)).trans upd_same, upd_same⟩
    have a3 := Same.trans a2 s3
    refine ⟨_, rfl, by show 1 ≤ 1000; decide, fun e4 n4 => ⟨e4, xa, da, rfl, dp_same (same_upd n4) (dp_same a3 ha), sa, upd_same, fun K4 dd4 y4 nd4 nde4 he4 hd4 hb4 hy4 => ⟨rfl, dd4, _, he4, hd4, ?_⟩⟩⟩
    have p4 := made_dp (fs := [("thing", y4)]) he4 hd4 hy4
    have s4 := made_same (fs := [("thing", y4)]) (gs := []) n4 nd4 hb4
    have r4 : ErAt (upd (upd K4 e4 (exv e4 (CA 4) dd4)) dd4 (.xd [("thing", y4)])) e4 (CA 4) [("thing", y4)] := ⟨dd4, (upd_ne (Ne.symm nde4)).trans upd_same, upd_same⟩
    have a4 := Same.trans a3 s4
    refine ⟨_, rfl, _, rfl, by show 2 ≤ 1000; decide, fun e5 n5 => ⟨e5, xa, xb, da, db, rfl, dp_same (same_upd n5) (dp_same a4 ha), sa, dp_same (same_upd n5) (dp_same a4 hb), sb, upd_same, fun K5 dd5 y5 u5 nd5 nde5 he5 hd5 hb5 hy5 hu5 => ⟨rfl, dd5, _, he5, hd5, ?_⟩⟩⟩
    have p5 := made_dp (fs := [("under", u5), ("op", y5)]) he5 hd5 hy5
    have v5 := made_dp (fs := [("under", u5), ("op", y5)]) he5 hd5 hu5
    have s5 := made_same (fs := [("under", u5), ("op", y5)]) (gs := []) n5 nd5 hb5
    have r5 : ErAt (upd (upd K5 e5 (exv e5 (CA 5) dd5)) dd5 (.xd [("under", u5), ("op", y5)])) e5 (CA 5) [("under", u5), ("op", y5)] := ⟨dd5, (upd_ne (Ne.symm nde5)).trans upd_same, upd_same⟩
    have a5 := Same.trans a4 s5
    refine ⟨_, rfl, by show 1 ≤ 1000; decide, fun e6 n6 => ⟨e6, xa, da, rfl, dp_same (same_upd n6) (dp_same a5 ha), sa, upd_same, fun K6 dd6 y6 nd6 nde6 he6 hd6 hb6 hy6 => ⟨rfl, dd6, _, he6, hd6, ?_⟩⟩⟩
    have p6 := made_dp (fs := [("under", y6)]) he6 hd6 hy6
    have s6 := made_same (fs := [("under", y6)]) (gs := []) n6 nd6 hb6
    have r6 : ErAt (upd (upd K6 e6 (exv e6 (CA 6) dd6)) dd6 (.xd [("under", y6)])) e6 (CA 6) [("under", y6)] := ⟨dd6, (upd_ne (Ne.symm nde6)).trans upd_same, upd_same⟩
    have a6 := Same.trans a5 s6
    refine ⟨_, rfl, by show 1 ≤ 1000; decide, fun e7 n7 => ⟨e7, xa, da, rfl, dp_same (same_upd n7) (dp_same a6 ha), sa, upd_same, fun K7 dd7 y7 nd7 nde7 he7 hd7 hb7 hy7 => ⟨rfl, dd7, _, he7, hd7, ?_⟩⟩⟩
    have p7 := made_dp (fs := [("name", y7)]) he7 hd7 hy7
    have s7 := made_same (fs := [("name", y7)]) (gs := []) n7 nd7 hb7
    have r7 : ErAt (upd (upd K7 e7 (exv e7 (CA 7) dd7)) dd7 (.xd [("name", y7)])) e7 (CA 7) [("name", y7)] := ⟨dd7, (upd_ne (Ne.symm nde7)).trans upd_same, upd_same⟩
    have a7 := Same.trans a6 s7
    refine ⟨_, rfl, by show 1 ≤ 1000; decide, fun e8 n8 => ⟨e8, xa, da, rfl, dp_same (same_upd n8) (dp_same a7 ha), sa, upd_same, fun K8 dd8 y8 nd8 nde8 he8 hd8 hb8 hy8 => ⟨rfl, dd8, _, he8, hd8, ?_⟩⟩⟩
    have p8 := made_dp (fs := [("op", y8)]) he8 hd8 hy8
    have s8 := made_same (fs := [("op", y8)]) (gs := []) n8 nd8 hb8
    have r8 : ErAt (upd (upd K8 e8 (exv e8 (CA 8) dd8)) dd8 (.xd [("op", y8)])) e8 (CA 8) [("op", y8)] := ⟨dd8, (upd_ne (Ne.symm nde8)).trans upd_same, upd_same⟩
    have a8 := Same.trans a7 s8
    refine ⟨by show 9 ≤ sizeLine; decide, fun l0 m0 => ?_⟩
    have b0 := same_upd (o := .lst [.ref e0, .ref e1, .ref e2, .ref e3, .ref e4, .ref e5, .ref e6, .ref e7, .ref e8]) m0
    have c0 := Same.trans a8 b0
    refine ⟨_, rfl, ?_⟩
    refine ⟨_, rfl, by show 1 ≤ 1000; decide, fun e9 n9 => ⟨e9, xa, da, rfl, dp_same (same_upd n9) (dp_same c0 ha), sa, upd_same, fun K9 dd9 y9 nd9 nde9 he9 hd9 hb9 hy9 => ⟨rfl, dd9, _, he9, hd9, ?_⟩⟩⟩
    have p9 := made_dp (fs := [("making", y9)]) he9 hd9 hy9
    have s9 := made_same (fs := [("making", y9)]) (gs := []) n9 nd9 hb9
    have r9 : ErAt (upd (upd K9 e9 (exv e9 (CA 9) dd9)) dd9 (.xd [("making", y9)])) e9 (CA 9) [("making", y9)] := ⟨dd9, (upd_ne (Ne.symm nde9)).trans upd_same, upd_same⟩
    have a9 := Same.trans c0 s9
    refine ⟨_, rfl, by show 1 ≤ 1000; decide, fun e10 n10 => ⟨e10, xa, da, rfl, dp_same (same_upd n10) (dp_same a9 ha), sa, upd_same, fun K10 dd10 y10 nd10 nde10 he10 hd10 hb10 hy10 => ⟨rfl, dd10, _, he10, hd10, ?_⟩⟩⟩
    have p10 := made_dp (fs := [("spot", y10)]) he10 hd10 hy10
    have s10 := made_same (fs := [("spot", y10)]) (gs := []) n10 nd10 hb10
    have r10 : ErAt (upd (upd K10 e10 (exv e10 (CA 10) dd10)) dd10 (.xd [("spot", y10)])) e10 (CA 10) [("spot", y10)] := ⟨dd10, (upd_ne (Ne.symm nde10)).trans upd_same, upd_same⟩
    have a10 := Same.trans a9 s10
    refine ⟨_, rfl, by show 1 ≤ 1000; decide, fun e11 n11 => ⟨e11, xa, da, rfl, dp_same (same_upd n11) (dp_same a10 ha), sa, upd_same, fun K11 dd11 y11 nd11 nde11 he11 hd11 hb11 hy11 => ⟨rfl, dd11, _, he11, hd11, ?_⟩⟩⟩
    have p11 := made_dp (fs := [("path", y11)]) he11 hd11 hy11
    have s11 := made_same (fs := [("path", y11)]) (gs := []) n11 nd11 hb11
    have r11 : ErAt (upd (upd K11 e11 (exv e11 (CA 11) dd11)) dd11 (.xd [("path", y11)])) e11 (CA 11) [("path", y11)] := ⟨dd11, (upd_ne (Ne.symm nde11)).trans upd_same, upd_same⟩
    have a11 := Same.trans a10 s11
    refine ⟨_, rfl, by show 1 ≤ 1000; decide, fun e12 n12 => ⟨e12, xa, da, rfl, dp_same (same_upd n12) (dp_same a11 ha), sa, upd_same, fun K12 dd12 y12 nd12 nde12 he12 hd12 hb12 hy12 => ⟨rfl, dd12, _, he12, hd12, ?_⟩⟩⟩
    have p12 := made_dp (fs := [("ring", y12)]) he12 hd12 hy12
    have s12 := made_same (fs := [("ring", y12)]) (gs := []) n12 nd12 hb12
    have r12 : ErAt (upd (upd K12 e12 (exv e12 (CA 12) dd12)) dd12 (.xd [("ring", y12)])) e12 (CA 12) [("ring", y12)] := ⟨dd12, (upd_ne (Ne.symm nde12)).trans upd_same, upd_same⟩
    have a12 := Same.trans a11 s12
    refine ⟨_, rfl, _, rfl, by show 2 ≤ 1000; decide, fun e13 n13 => ⟨e13, xa, xb, da, db, rfl, dp_same (same_upd n13) (dp_same a12 ha), sa, dp_same (same_upd n13) (dp_same a12 hb), sb, upd_same, fun K13 dd13 y13 u13 nd13 nde13 he13 hd13 hb13 hy13 hu13 => ⟨rfl, dd13, _, he13, hd13, ?_⟩⟩⟩
    have p13 := made_dp (fs := [("ring", u13), ("least", y13)]) he13 hd13 hy13
    have v13 := made_dp (fs := [("ring", u13), ("least", y13)]) he13 hd13 hu13
    have s13 := made_same (fs := [("ring", u13), ("least", y13)]) (gs := []) n13 nd13 hb13
    have r13 : ErAt (upd (upd K13 e13 (exv e13 (CA 13) dd13)) dd13 (.xd [("ring", u13), ("least", y13)])) e13 (CA 13) [("ring", u13), ("least", y13)] := ⟨dd13, (upd_ne (Ne.symm nde13)).trans upd_same, upd_same⟩
    have a13 := Same.trans a12 s13
    refine ⟨_, rfl, by show 1 ≤ 1000; decide, fun e14 n14 => ⟨e14, xa, da, rfl, dp_same (same_upd n14) (dp_same a13 ha), sa, upd_same, fun K14 dd14 y14 nd14 nde14 he14 hd14 hb14 hy14 => ⟨rfl, dd14, _, he14, hd14, ?_⟩⟩⟩
    have p14 := made_dp (fs := [("clash", y14)]) he14 hd14 hy14
    have s14 := made_same (fs := [("clash", y14)]) (gs := []) n14 nd14 hb14
    have r14 : ErAt (upd (upd K14 e14 (exv e14 (CA 14) dd14)) dd14 (.xd [("clash", y14)])) e14 (CA 14) [("clash", y14)] := ⟨dd14, (upd_ne (Ne.symm nde14)).trans upd_same, upd_same⟩
    have a14 := Same.trans a13 s14
    refine ⟨_, rfl, by show 1 ≤ 1000; decide, fun e15 n15 => ⟨e15, xa, da, rfl, dp_same (same_upd n15) (dp_same a14 ha), sa, upd_same, fun K15 dd15 y15 nd15 nde15 he15 hd15 hb15 hy15 => ⟨rfl, dd15, _, he15, hd15, ?_⟩⟩⟩
    have p15 := made_dp (fs := [("name", y15)]) he15 hd15 hy15
    have s15 := made_same (fs := [("name", y15)]) (gs := []) n15 nd15 hb15
    have r15 : ErAt (upd (upd K15 e15 (exv e15 (CA 15) dd15)) dd15 (.xd [("name", y15)])) e15 (CA 15) [("name", y15)] := ⟨dd15, (upd_ne (Ne.symm nde15)).trans upd_same, upd_same⟩
    have a15 := Same.trans a14 s15
    refine ⟨_, rfl, by show 1 ≤ 1000; decide, fun e16 n16 => ⟨e16, xa, da, rfl, dp_same (same_upd n16) (dp_same a15 ha), sa, upd_same, fun K16 dd16 y16 nd16 nde16 he16 hd16 hb16 hy16 => ⟨rfl, dd16, _, he16, hd16, ?_⟩⟩⟩
    have p16 := made_dp (fs := [("spots", y16)]) he16 hd16 hy16
    have s16 := made_same (fs := [("spots", y16)]) (gs := []) n16 nd16 hb16
    have r16 : ErAt (upd (upd K16 e16 (exv e16 (CA 16) dd16)) dd16 (.xd [("spots", y16)])) e16 (CA 16) [("spots", y16)] := ⟨dd16, (upd_ne (Ne.symm nde16)).trans upd_same, upd_same⟩
    have a16 := Same.trans a15 s16
    refine ⟨by show 8 ≤ sizeLine; decide, fun l1 m1 => ?_⟩
    have b1 := same_upd (o := .lst [.ref e9, .ref e10, .ref e11, .ref e12, .ref e13, .ref e14, .ref e15, .ref e16]) m1
    have c1 := Same.trans a16 b1
    refine ⟨l0, l1, _, _, rfl, rfl, b1 _ _ (s16 _ _ (s15 _ _ (s14 _ _ (s13 _ _ (s12 _ _ (s11 _ _ (s10 _ _ (s9 _ _ upd_same)))))))), upd_same, by show 17 ≤ sizeLine; decide, fun x1 w1 => ?_⟩
    have d1 := same_upd (o := .lst ([.ref e0, .ref e1, .ref e2, .ref e3, .ref e4, .ref e5, .ref e6, .ref e7, .ref e8] ++ [.ref e9, .ref e10, .ref e11, .ref e12, .ref e13, .ref e14, .ref e15, .ref e16])) w1
    have f1 := Same.trans c1 d1
    refine ⟨_, rfl, ?_⟩
    refine ⟨_, rfl, by show 1 ≤ 1000; decide, fun e17 n17 => ⟨e17, xa, da, rfl, dp_same (same_upd n17) (dp_same f1 ha), sa, upd_same, fun K17 dd17 y17 nd17 nde17 he17 hd17 hb17 hy17 => ⟨rfl, dd17, _, he17, hd17, ?_⟩⟩⟩
    have p17 := made_dp (fs := [("many", y17)]) he17 hd17 hy17
    have s17 := made_same (fs := [("many", y17)]) (gs := []) n17 nd17 hb17
    have r17 : ErAt (upd (upd K17 e17 (exv e17 (CA 17) dd17)) dd17 (.xd [("many", y17)])) e17 (CA 17) [("many", y17)] := ⟨dd17, (upd_ne (Ne.symm nde17)).trans upd_same, upd_same⟩
    have a17 := Same.trans f1 s17
    refine ⟨by show 1 ≤ sizeLine; decide, fun l2 m2 => ?_⟩
    have b2 := same_upd (o := .lst [.ref e17]) m2
    have c2 := Same.trans a17 b2
    refine ⟨x1, l2, _, _, rfl, rfl, b2 _ _ (s17 _ _ upd_same), upd_same, by show 18 ≤ sizeLine; decide, fun x2 w2 => ?_⟩
    have d2 := same_upd (o := .lst ([.ref e0, .ref e1, .ref e2, .ref e3, .ref e4, .ref e5, .ref e6, .ref e7, .ref e8] ++ [.ref e9, .ref e10, .ref e11, .ref e12, .ref e13, .ref e14, .ref e15, .ref e16] ++ [.ref e17])) w2
    have f2 := Same.trans c2 d2
    have t22 := d2
    have t21 := Same.trans b2 t22
    have t20 := Same.trans s17 t21
    have t19 := Same.trans d1 t20
    have t18 := Same.trans b1 t19
    have t17 := Same.trans s16 t18
    have t16 := Same.trans s15 t17
    have t15 := Same.trans s14 t16
    have t14 := Same.trans s13 t15
    have t13 := Same.trans s12 t14
    have t12 := Same.trans s11 t13
    have t11 := Same.trans s10 t12
    have t10 := Same.trans s9 t11
    have t9 := Same.trans b0 t10
    have t8 := Same.trans s8 t9
    have t7 := Same.trans s7 t8
    have t6 := Same.trans s6 t7
    have t5 := Same.trans s5 t6
    have t4 := Same.trans s4 t5
    have t3 := Same.trans s3 t4
    have t2 := Same.trans s2 t3
    have t1 := Same.trans s1 t2
    have t0 := Same.trans s0 t1
    refine q _ _ [e0, e1, e2, e3, e4, e5, e6, e7, e8, e9, e10, e11, e12, e13, e14, e15, e16, e17] f2 upd_same ⟨rfl, fun i e h => ?_⟩
    match i, h with
    | 0, h => cases h; exact ⟨y0, u0, r0.same t1, dp_same t1 p0, dp_same t1 v0⟩
    | 1, h => cases h; exact ⟨y1, r1.same t2, dp_same t2 p1⟩
    | 2, h => cases h; exact ⟨y2, r2.same t3, dp_same t3 p2⟩
    | 3, h => cases h; exact ⟨y3, r3.same t4, dp_same t4 p3⟩
    | 4, h => cases h; exact ⟨y4, r4.same t5, dp_same t5 p4⟩
    | 5, h => cases h; exact ⟨y5, u5, r5.same t6, dp_same t6 p5, dp_same t6 v5⟩
    | 6, h => cases h; exact ⟨y6, r6.same t7, dp_same t7 p6⟩
    | 7, h => cases h; exact ⟨y7, r7.same t8, dp_same t8 p7⟩
    | 8, h => cases h; exact ⟨y8, r8.same t9, dp_same t9 p8⟩
    | 9, h => cases h; exact ⟨y9, r9.same t11, dp_same t11 p9⟩
    | 10, h => cases h; exact ⟨y10, r10.same t12, dp_same t12 p10⟩
    | 11, h => cases h; exact ⟨y11, r11.same t13, dp_same t13 p11⟩
    | 12, h => cases h; exact ⟨y12, r12.same t14, dp_same t14 p12⟩
    | 13, h => cases h; exact ⟨y13, u13, r13.same t15, dp_same t15 p13, dp_same t15 v13⟩
    | 14, h => cases h; exact ⟨y14, r14.same t16, dp_same t16 p14⟩
    | 15, h => cases h; exact ⟨y15, r15.same t17, dp_same t17 p15⟩
    | 16, h => cases h; exact ⟨y16, r16.same t18, dp_same t18 p16⟩
    | 17, h => cases h; exact ⟨y17, r17.same t21, dp_same t21 p17⟩
    | n + 18, h => cases h
theorem ok_called (M : Mks P w K mg base CA) (D : Dd K mg "_law_called" s__law_called P__law_called) : C8.Cal P w K mg base 8 "_law_called" (spMade K CA) [] := by
  refine D.cal sc__law_called (fun vs H Q E h => ?_) (fun f cdv A outer s H vs Q E hr h => ?_)
  · obtain ⟨xa, xb, da, db, rfl, _⟩ := h
    rfl
  · obtain ⟨xa, xb, da, db, rfl, ha, sa, hb, sb, q⟩ := h
    refine ⟨_, (pss_cons (ps_set (i := 2) sc__law_called.nd rfl (Or.inl rfl) (pe_lst (pa_cons (pe_mkK M.k0 hr (by decide) (by rfl) (pk_cons (pv 1) (pk_cons (pv 0) pk_nil))) (pa_cons (pe_mkK M.k1 hr (by decide) (by rfl) (pk_cons (pv 0) pk_nil)) (pa_cons (pe_mkK M.k2 hr (by decide) (by rfl) (pk_cons (pv 0) pk_nil)) (pa_cons (pe_mkK M.k3 hr (by decide) (by rfl) (pk_cons (pv 0) pk_nil)) (pa_cons (pe_mkK M.k4 hr (by decide) (by rfl) (pk_cons (pv 0) pk_nil)) pa_nil)))))))
        (pss_cons (ps_set (i := 2) sc__law_called.nd rfl (Or.inl rfl) (pe_op op_cat (pv 2) (pe_lst (pa_cons (pe_mkK M.k5 hr (by decide) (by rfl) (pk_cons (pv 1) (pk_cons (pv 0) pk_nil))) (pa_cons (pe_mkK M.k6 hr (by decide) (by rfl) (pk_cons (pv 0) pk_nil)) (pa_cons (pe_mkK M.k7 hr (by decide) (by rfl) (pk_cons (pv 0) pk_nil)) (pa_cons (pe_mkK M.k8 hr (by decide) (by rfl) (pk_cons (pv 0) pk_nil)) (pa_cons (pe_mkK M.k9 hr (by decide) (by rfl) (pk_cons (pv 0) pk_nil)) pa_nil))))))))
        (pss_cons (ps_set (i := 2) sc__law_called.nd rfl (Or.inl rfl) (pe_op op_cat (pv 2) (pe_lst (pa_cons (pe_mkK M.k10 hr (by decide) (by rfl) (pk_cons (pv 0) pk_nil)) (pa_cons (pe_mkK M.k11 hr (by decide) (by rfl) (pk_cons (pv 0) pk_nil)) (pa_cons (pe_mkK M.k12 hr (by decide) (by rfl) (pk_cons (pv 0) pk_nil)) (pa_cons (pe_mkK M.k13 hr (by decide) (by rfl) (pk_cons (pv 1) (pk_cons (pv 0) pk_nil))) (pa_cons (pe_mkK M.k14 hr (by decide) (by rfl) (pk_cons (pv 0) pk_nil)) pa_nil))))))))
        (pss_one (ps_ret (pe_op op_cat (pv 2) (pe_lst (pa_cons (pe_mkK M.k15 hr (by decide) (by rfl) (pk_cons (pv 0) pk_nil)) (pa_cons (pe_mkK M.k16 hr (by decide) (by rfl) (pk_cons (pv 0) pk_nil)) (pa_cons (pe_mkK M.k17 hr (by decide) (by rfl) (pk_cons (pv 0) pk_nil)) pa_nil)))))))))), ?_⟩
    have z0 : Same H H := Same.refl H
    refine ⟨_, rfl, _, rfl, rfl, fun e0 n0 => ⟨e0, xa, xb, da, db, rfl, dp_same (same_upd n0) (dp_same z0 ha), sa, dp_same (same_upd n0) (dp_same z0 hb), sb, upd_same, fun K0 dd0 y0 u0 nd0 nde0 he0 hd0 hb0 hy0 hu0 => ⟨rfl, dd0, _, he0, hd0, ?_⟩⟩⟩
    have p0 := made_dp (fs := [("row", u0), ("part", y0)]) he0 hd0 hy0
    have v0 := made_dp (fs := [("row", u0), ("part", y0)]) he0 hd0 hu0
    have s0 := made_same (fs := [("row", u0), ("part", y0)]) (gs := []) n0 nd0 hb0
    have r0 : ErAt (upd (upd K0 e0 (exv e0 (CA 0) dd0)) dd0 (.xd [("row", u0), ("part", y0)])) e0 (CA 0) [("row", u0), ("part", y0)] := ⟨dd0, (upd_ne (Ne.symm nde0)).trans upd_same, upd_same⟩
    have a0 := Same.trans z0 s0
    refine ⟨_, rfl, rfl, fun e1 n1 => ⟨e1, xa, da, rfl, dp_same (same_upd n1) (dp_same a0 ha), sa, upd_same, fun K1 dd1 y1 nd1 nde1 he1 hd1 hb1 hy1 => ⟨rfl, dd1, _, he1, hd1, ?_⟩⟩⟩
    have p1 := made_dp (fs := [("row", y1)]) he1 hd1 hy1
    have s1 := made_same (fs := [("row", y1)]) (gs := []) n1 nd1 hb1
    have r1 : ErAt (upd (upd K1 e1 (exv e1 (CA 1) dd1)) dd1 (.xd [("row", y1)])) e1 (CA 1) [("row", y1)] := ⟨dd1, (upd_ne (Ne.symm nde1)).trans upd_same, upd_same⟩
    have a1 := Same.trans a0 s1
    refine ⟨_, rfl, rfl, fun e2 n2 => ⟨e2, xa, da, rfl, dp_same (same_upd n2) (dp_same a1 ha), sa, upd_same, fun K2 dd2 y2 nd2 nde2 he2 hd2 hb2 hy2 => ⟨rfl, dd2, _, he2, hd2, ?_⟩⟩⟩
    have p2 := made_dp (fs := [("at", y2)]) he2 hd2 hy2
    have s2 := made_same (fs := [("at", y2)]) (gs := []) n2 nd2 hb2
    have r2 : ErAt (upd (upd K2 e2 (exv e2 (CA 2) dd2)) dd2 (.xd [("at", y2)])) e2 (CA 2) [("at", y2)] := ⟨dd2, (upd_ne (Ne.symm nde2)).trans upd_same, upd_same⟩
    have a2 := Same.trans a1 s2
    refine ⟨_, rfl, rfl, fun e3 n3 => ⟨e3, xa, da, rfl, dp_same (same_upd n3) (dp_same a2 ha), sa, upd_same, fun K3 dd3 y3 nd3 nde3 he3 hd3 hb3 hy3 => ⟨rfl, dd3, _, he3, hd3, ?_⟩⟩⟩
    have p3 := made_dp (fs := [("thing", y3)]) he3 hd3 hy3
    have s3 := made_same (fs := [("thing", y3)]) (gs := []) n3 nd3 hb3
    have r3 : ErAt (upd (upd K3 e3 (exv e3 (CA 3) dd3)) dd3 (.xd [("thing", y3)])) e3 (CA 3) [("thing", y3)] := ⟨dd3, (upd_ne (Ne.symm nde3)).trans upd_same, upd_same⟩
    have a3 := Same.trans a2 s3
    refine ⟨_, rfl, rfl, fun e4 n4 => ⟨e4, xa, da, rfl, dp_same (same_upd n4) (dp_same a3 ha), sa, upd_same, fun K4 dd4 y4 nd4 nde4 he4 hd4 hb4 hy4 => ⟨rfl, dd4, _, he4, hd4, ?_⟩⟩⟩
    have p4 := made_dp (fs := [("thing", y4)]) he4 hd4 hy4
    have s4 := made_same (fs := [("thing", y4)]) (gs := []) n4 nd4 hb4
    have r4 : ErAt (upd (upd K4 e4 (exv e4 (CA 4) dd4)) dd4 (.xd [("thing", y4)])) e4 (CA 4) [("thing", y4)] := ⟨dd4, (upd_ne (Ne.symm nde4)).trans upd_same, upd_same⟩
    have a4 := Same.trans a3 s4
    refine ⟨by show 5 ≤ sizeLine; decide, fun l0 m0 => ?_⟩
    have b0 := same_upd (o := .lst [.ref e0, .ref e1, .ref e2, .ref e3, .ref e4]) m0
    have c0 := Same.trans a4 b0
    refine ⟨_, rfl, ?_⟩
    refine ⟨_, rfl, _, rfl, rfl, fun e5 n5 => ⟨e5, xa, xb, da, db, rfl, dp_same (same_upd n5) (dp_same c0 ha), sa, dp_same (same_upd n5) (dp_same c0 hb), sb, upd_same, fun K5 dd5 y5 u5 nd5 nde5 he5 hd5 hb5 hy5 hu5 => ⟨rfl, dd5, _, he5, hd5, ?_⟩⟩⟩
    have p5 := made_dp (fs := [("under", u5), ("op", y5)]) he5 hd5 hy5
    have v5 := made_dp (fs := [("under", u5), ("op", y5)]) he5 hd5 hu5
    have s5 := made_same (fs := [("under", u5), ("op", y5)]) (gs := []) n5 nd5 hb5
    have r5 : ErAt (upd (upd K5 e5 (exv e5 (CA 5) dd5)) dd5 (.xd [("under", u5), ("op", y5)])) e5 (CA 5) [("under", u5), ("op", y5)] := ⟨dd5, (upd_ne (Ne.symm nde5)).trans upd_same, upd_same⟩
    have a5 := Same.trans c0 s5
    refine ⟨_, rfl, rfl, fun e6 n6 => ⟨e6, xa, da, rfl, dp_same (same_upd n6) (dp_same a5 ha), sa, upd_same, fun K6 dd6 y6 nd6 nde6 he6 hd6 hb6 hy6 => ⟨rfl, dd6, _, he6, hd6, ?_⟩⟩⟩
    have p6 := made_dp (fs := [("under", y6)]) he6 hd6 hy6
    have s6 := made_same (fs := [("under", y6)]) (gs := []) n6 nd6 hb6
    have r6 : ErAt (upd (upd K6 e6 (exv e6 (CA 6) dd6)) dd6 (.xd [("under", y6)])) e6 (CA 6) [("under", y6)] := ⟨dd6, (upd_ne (Ne.symm nde6)).trans upd_same, upd_same⟩
    have a6 := Same.trans a5 s6
    refine ⟨_, rfl, rfl, fun e7 n7 => ⟨e7, xa, da, rfl, dp_same (same_upd n7) (dp_same a6 ha), sa, upd_same, fun K7 dd7 y7 nd7 nde7 he7 hd7 hb7 hy7 => ⟨rfl, dd7, _, he7, hd7, ?_⟩⟩⟩
    have p7 := made_dp (fs := [("name", y7)]) he7 hd7 hy7
    have s7 := made_same (fs := [("name", y7)]) (gs := []) n7 nd7 hb7
    have r7 : ErAt (upd (upd K7 e7 (exv e7 (CA 7) dd7)) dd7 (.xd [("name", y7)])) e7 (CA 7) [("name", y7)] := ⟨dd7, (upd_ne (Ne.symm nde7)).trans upd_same, upd_same⟩
    have a7 := Same.trans a6 s7
    refine ⟨_, rfl, rfl, fun e8 n8 => ⟨e8, xa, da, rfl, dp_same (same_upd n8) (dp_same a7 ha), sa, upd_same, fun K8 dd8 y8 nd8 nde8 he8 hd8 hb8 hy8 => ⟨rfl, dd8, _, he8, hd8, ?_⟩⟩⟩
    have p8 := made_dp (fs := [("op", y8)]) he8 hd8 hy8
    have s8 := made_same (fs := [("op", y8)]) (gs := []) n8 nd8 hb8
    have r8 : ErAt (upd (upd K8 e8 (exv e8 (CA 8) dd8)) dd8 (.xd [("op", y8)])) e8 (CA 8) [("op", y8)] := ⟨dd8, (upd_ne (Ne.symm nde8)).trans upd_same, upd_same⟩
    have a8 := Same.trans a7 s8
    refine ⟨_, rfl, rfl, fun e9 n9 => ⟨e9, xa, da, rfl, dp_same (same_upd n9) (dp_same a8 ha), sa, upd_same, fun K9 dd9 y9 nd9 nde9 he9 hd9 hb9 hy9 => ⟨rfl, dd9, _, he9, hd9, ?_⟩⟩⟩
    have p9 := made_dp (fs := [("making", y9)]) he9 hd9 hy9
    have s9 := made_same (fs := [("making", y9)]) (gs := []) n9 nd9 hb9
    have r9 : ErAt (upd (upd K9 e9 (exv e9 (CA 9) dd9)) dd9 (.xd [("making", y9)])) e9 (CA 9) [("making", y9)] := ⟨dd9, (upd_ne (Ne.symm nde9)).trans upd_same, upd_same⟩
    have a9 := Same.trans a8 s9
    refine ⟨by show 5 ≤ sizeLine; decide, fun l1 m1 => ?_⟩
    have b1 := same_upd (o := .lst [.ref e5, .ref e6, .ref e7, .ref e8, .ref e9]) m1
    have c1 := Same.trans a9 b1
    refine ⟨l0, l1, _, _, rfl, rfl, b1 _ _ (s9 _ _ (s8 _ _ (s7 _ _ (s6 _ _ (s5 _ _ upd_same))))), upd_same, by show 10 ≤ sizeLine; decide, fun x1 w1 => ?_⟩
    have d1 := same_upd (o := .lst ([.ref e0, .ref e1, .ref e2, .ref e3, .ref e4] ++ [.ref e5, .ref e6, .ref e7, .ref e8, .ref e9])) w1
    have f1 := Same.trans c1 d1
    refine ⟨_, rfl, ?_⟩
    refine ⟨_, rfl, rfl, fun e10 n10 => ⟨e10, xa, da, rfl, dp_same (same_upd n10) (dp_same f1 ha), sa, upd_same, fun K10 dd10 y10 nd10 nde10 he10 hd10 hb10 hy10 => ⟨rfl, dd10, _, he10, hd10, ?_⟩⟩⟩
    have p10 := made_dp (fs := [("spot", y10)]) he10 hd10 hy10
    have s10 := made_same (fs := [("spot", y10)]) (gs := []) n10 nd10 hb10
    have r10 : ErAt (upd (upd K10 e10 (exv e10 (CA 10) dd10)) dd10 (.xd [("spot", y10)])) e10 (CA 10) [("spot", y10)] := ⟨dd10, (upd_ne (Ne.symm nde10)).trans upd_same, upd_same⟩
    have a10 := Same.trans f1 s10
    refine ⟨_, rfl, rfl, fun e11 n11 => ⟨e11, xa, da, rfl, dp_same (same_upd n11) (dp_same a10 ha), sa, upd_same, fun K11 dd11 y11 nd11 nde11 he11 hd11 hb11 hy11 => ⟨rfl, dd11, _, he11, hd11, ?_⟩⟩⟩
    have p11 := made_dp (fs := [("path", y11)]) he11 hd11 hy11
    have s11 := made_same (fs := [("path", y11)]) (gs := []) n11 nd11 hb11
    have r11 : ErAt (upd (upd K11 e11 (exv e11 (CA 11) dd11)) dd11 (.xd [("path", y11)])) e11 (CA 11) [("path", y11)] := ⟨dd11, (upd_ne (Ne.symm nde11)).trans upd_same, upd_same⟩
    have a11 := Same.trans a10 s11
    refine ⟨_, rfl, rfl, fun e12 n12 => ⟨e12, xa, da, rfl, dp_same (same_upd n12) (dp_same a11 ha), sa, upd_same, fun K12 dd12 y12 nd12 nde12 he12 hd12 hb12 hy12 => ⟨rfl, dd12, _, he12, hd12, ?_⟩⟩⟩
    have p12 := made_dp (fs := [("ring", y12)]) he12 hd12 hy12
    have s12 := made_same (fs := [("ring", y12)]) (gs := []) n12 nd12 hb12
    have r12 : ErAt (upd (upd K12 e12 (exv e12 (CA 12) dd12)) dd12 (.xd [("ring", y12)])) e12 (CA 12) [("ring", y12)] := ⟨dd12, (upd_ne (Ne.symm nde12)).trans upd_same, upd_same⟩
    have a12 := Same.trans a11 s12
    refine ⟨_, rfl, _, rfl, rfl, fun e13 n13 => ⟨e13, xa, xb, da, db, rfl, dp_same (same_upd n13) (dp_same a12 ha), sa, dp_same (same_upd n13) (dp_same a12 hb), sb, upd_same, fun K13 dd13 y13 u13 nd13 nde13 he13 hd13 hb13 hy13 hu13 => ⟨rfl, dd13, _, he13, hd13, ?_⟩⟩⟩
    have p13 := made_dp (fs := [("ring", u13), ("least", y13)]) he13 hd13 hy13
    have v13 := made_dp (fs := [("ring", u13), ("least", y13)]) he13 hd13 hu13
    have s13 := made_same (fs := [("ring", u13), ("least", y13)]) (gs := []) n13 nd13 hb13
    have r13 : ErAt (upd (upd K13 e13 (exv e13 (CA 13) dd13)) dd13 (.xd [("ring", u13), ("least", y13)])) e13 (CA 13) [("ring", u13), ("least", y13)] := ⟨dd13, (upd_ne (Ne.symm nde13)).trans upd_same, upd_same⟩
    have a13 := Same.trans a12 s13
    refine ⟨_, rfl, rfl, fun e14 n14 => ⟨e14, xa, da, rfl, dp_same (same_upd n14) (dp_same a13 ha), sa, upd_same, fun K14 dd14 y14 nd14 nde14 he14 hd14 hb14 hy14 => ⟨rfl, dd14, _, he14, hd14, ?_⟩⟩⟩
    have p14 := made_dp (fs := [("clash", y14)]) he14 hd14 hy14
    have s14 := made_same (fs := [("clash", y14)]) (gs := []) n14 nd14 hb14
    have r14 : ErAt (upd (upd K14 e14 (exv e14 (CA 14) dd14)) dd14 (.xd [("clash", y14)])) e14 (CA 14) [("clash", y14)] := ⟨dd14, (upd_ne (Ne.symm nde14)).trans upd_same, upd_same⟩
    have a14 := Same.trans a13 s14
    refine ⟨by show 5 ≤ sizeLine; decide, fun l2 m2 => ?_⟩
    have b2 := same_upd (o := .lst [.ref e10, .ref e11, .ref e12, .ref e13, .ref e14]) m2
    have c2 := Same.trans a14 b2
    refine ⟨x1, l2, _, _, rfl, rfl, b2 _ _ (s14 _ _ (s13 _ _ (s12 _ _ (s11 _ _ (s10 _ _ upd_same))))), upd_same, by show 15 ≤ sizeLine; decide, fun x2 w2 => ?_⟩
    have d2 := same_upd (o := .lst ([.ref e0, .ref e1, .ref e2, .ref e3, .ref e4] ++ [.ref e5, .ref e6, .ref e7, .ref e8, .ref e9] ++ [.ref e10, .ref e11, .ref e12, .ref e13, .ref e14])) w2
    have f2 := Same.trans c2 d2
    refine ⟨_, rfl, ?_⟩
    refine ⟨_, rfl, rfl, fun e15 n15 => ⟨e15, xa, da, rfl, dp_same (same_upd n15) (dp_same f2 ha), sa, upd_same, fun K15 dd15 y15 nd15 nde15 he15 hd15 hb15 hy15 => ⟨rfl, dd15, _, he15, hd15, ?_⟩⟩⟩
    have p15 := made_dp (fs := [("name", y15)]) he15 hd15 hy15
    have s15 := made_same (fs := [("name", y15)]) (gs := []) n15 nd15 hb15
    have r15 : ErAt (upd (upd K15 e15 (exv e15 (CA 15) dd15)) dd15 (.xd [("name", y15)])) e15 (CA 15) [("name", y15)] := ⟨dd15, (upd_ne (Ne.symm nde15)).trans upd_same, upd_same⟩
    have a15 := Same.trans f2 s15
    refine ⟨_, rfl, rfl, fun e16 n16 => ⟨e16, xa, da, rfl, dp_same (same_upd n16) (dp_same a15 ha), sa, upd_same, fun K16 dd16 y16 nd16 nde16 he16 hd16 hb16 hy16 => ⟨rfl, dd16, _, he16, hd16, ?_⟩⟩⟩
    have p16 := made_dp (fs := [("spots", y16)]) he16 hd16 hy16
    have s16 := made_same (fs := [("spots", y16)]) (gs := []) n16 nd16 hb16
    have r16 : ErAt (upd (upd K16 e16 (exv e16 (CA 16) dd16)) dd16 (.xd [("spots", y16)])) e16 (CA 16) [("spots", y16)] := ⟨dd16, (upd_ne (Ne.symm nde16)).trans upd_same, upd_same⟩
    have a16 := Same.trans a15 s16
    refine ⟨_, rfl, rfl, fun e17 n17 => ⟨e17, xa, da, rfl, dp_same (same_upd n17) (dp_same a16 ha), sa, upd_same, fun K17 dd17 y17 nd17 nde17 he17 hd17 hb17 hy17 => ⟨rfl, dd17, _, he17, hd17, ?_⟩⟩⟩
    have p17 := made_dp (fs := [("many", y17)]) he17 hd17 hy17
    have s17 := made_same (fs := [("many", y17)]) (gs := []) n17 nd17 hb17
    have r17 : ErAt (upd (upd K17 e17 (exv e17 (CA 17) dd17)) dd17 (.xd [("many", y17)])) e17 (CA 17) [("many", y17)] := ⟨dd17, (upd_ne (Ne.symm nde17)).trans upd_same, upd_same⟩
    have a17 := Same.trans a16 s17
    refine ⟨by show 3 ≤ sizeLine; decide, fun l3 m3 => ?_⟩
    have b3 := same_upd (o := .lst [.ref e15, .ref e16, .ref e17]) m3
    have c3 := Same.trans a17 b3
    refine ⟨x2, l3, _, _, rfl, rfl, b3 _ _ (s17 _ _ (s16 _ _ (s15 _ _ upd_same))), upd_same, by show 18 ≤ sizeLine; decide, fun x3 w3 => ?_⟩
    have d3 := same_upd (o := .lst ([.ref e0, .ref e1, .ref e2, .ref e3, .ref e4] ++ [.ref e5, .ref e6, .ref e7, .ref e8, .ref e9] ++ [.ref e10, .ref e11, .ref e12, .ref e13, .ref e14] ++ [.ref e15, .ref e16, .ref e17])) w3
    have f3 := Same.trans c3 d3
    have t24 := d3
    have t23 := Same.trans b3 t24
    have t22 := Same.trans s17 t23
    have t21 := Same.trans s16 t22
    have t20 := Same.trans s15 t21
    have t19 := Same.trans d2 t20
    have t18 := Same.trans b2 t19
    have t17 := Same.trans s14 t18
    have t16 := Same.trans s13 t17
    have t15 := Same.trans s12 t16
    have t14 := Same.trans s11 t15
    have t13 := Same.trans s10 t14
    have t12 := Same.trans d1 t13
    have t11 := Same.trans b1 t12
    have t10 := Same.trans s9 t11
    have t9 := Same.trans s8 t10
    have t8 := Same.trans s7 t9
    have t7 := Same.trans s6 t8
    have t6 := Same.trans s5 t7
    have t5 := Same.trans b0 t6
    have t4 := Same.trans s4 t5
    have t3 := Same.trans s3 t4
    have t2 := Same.trans s2 t3
    have t1 := Same.trans s1 t2
    have t0 := Same.trans s0 t1
    refine q _ _ [e0, e1, e2, e3, e4, e5, e6, e7, e8, e9, e10, e11, e12, e13, e14, e15, e16, e17] f3 upd_same ⟨rfl, fun i e h => ?_⟩
    match i, h with
    | 0, h => cases h; exact ⟨y0, u0, r0.same t1, dp_same t1 p0, dp_same t1 v0⟩
    | 1, h => cases h; exact ⟨y1, r1.same t2, dp_same t2 p1⟩
    | 2, h => cases h; exact ⟨y2, r2.same t3, dp_same t3 p2⟩
    | 3, h => cases h; exact ⟨y3, r3.same t4, dp_same t4 p3⟩
    | 4, h => cases h; exact ⟨y4, r4.same t5, dp_same t5 p4⟩
    | 5, h => cases h; exact ⟨y5, u5, r5.same t7, dp_same t7 p5, dp_same t7 v5⟩
    | 6, h => cases h; exact ⟨y6, r6.same t8, dp_same t8 p6⟩
    | 7, h => cases h; exact ⟨y7, r7.same t9, dp_same t9 p7⟩
    | 8, h => cases h; exact ⟨y8, r8.same t10, dp_same t10 p8⟩
    | 9, h => cases h; exact ⟨y9, r9.same t11, dp_same t11 p9⟩
    | 10, h => cases h; exact ⟨y10, r10.same t14, dp_same t14 p10⟩
    | 11, h => cases h; exact ⟨y11, r11.same t15, dp_same t15 p11⟩
    | 12, h => cases h; exact ⟨y12, r12.same t16, dp_same t16 p12⟩
    | 13, h => cases h; exact ⟨y13, u13, r13.same t17, dp_same t17 p13, dp_same t17 v13⟩
    | 14, h => cases h; exact ⟨y14, r14.same t18, dp_same t18 p14⟩
    | 15, h => cases h; exact ⟨y15, r15.same t21, dp_same t21 p15⟩
    | 16, h => cases h; exact ⟨y16, r16.same t22, dp_same t22 p16⟩
    | 17, h => cases h; exact ⟨y17, r17.same t23, dp_same t23 p17⟩
    | n + 18, h => cases h
end
/-! ### the draws -/
abbrev s__law_take : Stmt := top 25
abbrev N__law_take : List Str := ["_law_box", "_law_wide", "_law_found", "_law_once", "_law_twice"]
abbrev P__law_take : List Str := ["_law_box", "_law_wide"]
theorem sc__law_take : FnScope N__law_take P__law_take (defScope s__law_take) := ⟨rfl, rfl, rfl, by decide +kernel, rfl, by decide +kernel, by decide +kernel⟩
abbrev s__law_dip : Stmt := top 24
abbrev N__law_dip : List Str := ["_law_script", "_law_k", "_law_cell"]
abbrev P__law_dip : List Str := ["_law_script", "_law_k"]
theorem sc__law_dip : FnScope N__law_dip P__law_dip (defScope s__law_dip) := ⟨rfl, rfl, rfl, by decide +kernel, rfl, by decide +kernel, by decide +kernel⟩
abbrev s__law_folded : Stmt := top 26
abbrev N__law_folded : List Str := ["_law_script", "_law_size", "_law_cells", "_law_k", "_law_cell"]
abbrev P__law_folded : List Str := ["_law_script", "_law_size"]
theorem sc__law_folded : FnScope N__law_folded P__law_folded (defScope s__law_folded) := ⟨rfl, rfl, rfl, by decide +kernel, rfl, by decide +kernel, by decide +kernel⟩
section
variable {P : Program} {w : World} {K : PySem.W.Frag} {mg : Str → Option Value} {base : Heap}
theorem ok_take (D : Dd K mg "_law_take" s__law_take P__law_take) : C8.Cal P w K mg base 1 "_law_take" spTake [] := by
  refine D.cal sc__law_take (fun vs H Q E h => ?_) (fun f cdv A outer s H vs Q E hr h => ?_)
  · obtain ⟨a, many, n, b, rfl, _⟩ := h
    rfl
  · obtain ⟨a, many, n, b, rfl, ha, ⟨b0, b1, b2, rfl, h0, h1, h1', h2, h2'⟩, hn, hm, hm', k⟩ := h
    refine ⟨_, (pss_cons (ps_if (pt_cmpR op_gt (pe_ix ix_list (pv 0) pe_int (fun _ _ => rfl)) pe_int (nomark _))
          (pss_cons (ps_set (i := 2) sc__law_take.nd rfl (Or.inl rfl) (pe_op op_mod (pe_ix ix_list (pv 0) pe_int (fun _ _ => rfl)) (pv 1)))
        (pss_cons (ps_asg (pe_op op_fdiv (pe_ix ix_list (pv 0) pe_int (fun _ _ => rfl)) (pv 1)) (pg_sub (pv 0) pe_int set_list))
        (pss_one (ps_ret (pv 2)))))
          pss_nil)
        (pss_cons (ps_asg (pe_op op_add (pe_ix ix_list (pv 0) pe_int (fun _ _ => rfl)) pe_int) (pg_sub (pv 0) pe_int set_list))
        (pss_cons (ps_set (i := 3) sc__law_take.nd rfl (Or.inl rfl) (pe_op op_mod (pe_op op_pow (pe_op op_add (pe_ix ix_list (pv 0) pe_int (fun _ _ => rfl)) (pe_op op_mul pe_int (pe_ix ix_list (pv 0) pe_int (fun _ _ => rfl)))) pe_int) pe_int))
        (pss_cons (ps_set (i := 4) sc__law_take.nd rfl (Or.inl rfl) (pe_op op_mod (pe_op op_mul (pe_op op_add (pe_op op_add (pv 3) (pe_ix ix_list (pv 0) pe_int (fun _ _ => rfl))) (pe_op op_fdiv (pe_ix ix_list (pv 0) pe_int (fun _ _ => rfl)) pe_int)) (pe_op op_add (pe_op op_add (pe_op op_mod (pv 3) pe_int) pe_int) (pe_ix ix_list (pv 0) pe_int (fun _ _ => rfl)))) pe_int))
        (pss_one (ps_ret (pe_op op_mod (pe_op op_fdiv (pe_op op_mod (pe_op op_add (pe_op op_mul (pv 4) pe_int) (pv 3)) pe_int) pe_int) (pv 1)))))))), ?_⟩
    have hL : SqL K H a [.int b0, .int b1, .int b2] := SqL.of ha
    refine ⟨_, rfl, a, _, 0, .int b0, rfl, rfl, hL, atI_nat (j := 0) rfl, _, _, rfl, rfl, _, rfl, ite2 (fun e => ?_) (fun e => ?_)⟩
    · have e0 : 0 < b0 := of_decide_eq_true e
      refine ⟨_, rfl, a, _, 0, .int b0, rfl, rfl, hL, atI_nat (j := 0) rfl, .int many, rfl, _, _, rfl, rfl, hm, ?_⟩
      refine ⟨_, rfl, a, _, 0, .int b0, rfl, rfl, hL, atI_nat (j := 0) rfl, .int many, rfl, _, _, rfl, rfl, ⟨hm, hm'⟩, ?_⟩
      refine ⟨_, rfl, a, _, 0, 0, rfl, rfl, ha, rfl, _, rfl, ?_⟩
      refine k (b0 % many) _ (Int.emod_nonneg _ (by omega)) (Int.emod_lt_of_pos _ hm) ⟨b0 / many, b1, b2, rfl, Int.ediv_nonneg h0 (by omega), h1, h1', h2, by omega⟩
    · refine ⟨_, rfl, a, _, 2, .int b2, rfl, rfl, hL, atI_nat (j := 2) rfl, _, _, rfl, rfl, _, rfl, a, _, 2, 2, rfl, rfl, ha, rfl, ?_⟩
      have hL2 : SqL K (upd H a (.lst [.int b0, .int b1, .int (b2 + 1)])) a [.int b0, .int b1, .int (b2 + 1)] := SqL.of upd_same
      refine ⟨_, rfl, a, _, 1, .int b1, rfl, rfl, hL2, atI_nat (j := 1) rfl, _, rfl, a, _, 2, .int (b2 + 1), rfl, rfl, hL2, atI_nat (j := 2) rfl, _, _, rfl, rfl, .inl ⟨by decide, by decide⟩, _, _, rfl, rfl, _, _, rfl, rfl,
        ⟨by decide, by decide, by omega⟩, _, _, rfl, rfl, (by show (0 : Int) < _; decide), ?_⟩
      have q : (b1 + 39373 * (b2 + 1)) ^ Int.toNat 5 % 2147483647 = (b1 + 39373 * (b2 + 1)) ^ Int.toNat 5 % 2147483647 := rfl
      generalize (b1 + 39373 * (b2 + 1)) ^ Int.toNat 5 = w5
      have g1 : 0 ≤ w5 % 2147483647 := Int.emod_nonneg _ (by decide)
      have g2 : w5 % 2147483647 < 2147483647 := Int.emod_lt_of_pos _ (by decide)
      have g3 : 0 ≤ b1 / 1000003 := Int.ediv_nonneg h1 (by decide)
      have g4 : b1 / 1000003 ≤ b1 := Int.ediv_le_self _ h1
      have g5 : 0 ≤ w5 % 2147483647 % 40009 := Int.emod_nonneg _ (by decide)
      have g6 : w5 % 2147483647 % 40009 < 40009 := Int.emod_lt_of_pos _ (by decide)
      refine ⟨_, rfl, _, rfl, a, _, 2, .int (b2 + 1), rfl, rfl, hL2, atI_nat (j := 2) rfl, _, _, rfl, rfl, _, rfl, a, _, 1, .int b1, rfl, rfl, hL2, atI_nat (j := 1) rfl, _, _, rfl, rfl, ⟨by decide, by decide⟩, _, _, rfl, rfl,
        _, rfl, _, _, rfl, rfl, (by show (0 : Int) < _; decide), _, _, rfl, rfl, _, rfl, a, _, 2, .int (b2 + 1), rfl, rfl, hL2, atI_nat (j := 2) rfl, _, _, rfl, rfl, _, _, rfl, rfl, .inl ⟨by omega, by omega⟩, _, _, rfl, rfl, (by show (0 : Int) < _; decide), ?_⟩
      generalize (w5 % 2147483647 + (b2 + 1) + b1 / 1000003) * (w5 % 2147483647 % 40009 + 7 + (b2 + 1)) = w6
      refine ⟨_, rfl, _, _, rfl, rfl, .inr ⟨by decide, by decide⟩, _, rfl, _, _, rfl, rfl, _, _, rfl, rfl, (by show (0 : Int) < _; decide), _, _, rfl, rfl, ⟨by decide, by decide⟩, .int many, rfl, _, _, rfl, rfl, hm, ?_⟩
      exact k _ _ (Int.emod_nonneg _ (by omega)) (Int.emod_lt_of_pos _ hm) ⟨b0, b1, b2 + 1, rfl, h0, h1, h1', by omega, by omega⟩
theorem b01 (b : Bool) : -(2 ^ 64) < (if b = true then (1 : Int) else 0) ∧ (if b = true then (1 : Int) else 0) < 2 ^ 64 := by cases b <;> decide
theorem dip_b0 (c : Int) (b : Bool) : 0 ≤ (if c < 0 then -c else c) * (if b = true then 1 else 0) := by
  cases b with
  | false => simp
  | true =>
    rw [if_pos rfl, Int.mul_one]
    split <;> omega
theorem ok_dip (B : Bt mg) (D : Dd K mg "_law_dip" s__law_dip P__law_dip) : C8.Cal P w K mg base 1 "_law_dip" (spDip K) [] := by
  refine D.cal sc__law_dip (fun vs H Q E h => ?_) (fun f cdv A outer s H vs Q E hr h => ?_)
  · obtain ⟨a, k, ns, rfl, _⟩ := h
    rfl
  · obtain ⟨a, k, ns, rfl, hS, hk, q⟩ := h
    have T := B
    refine ⟨_, (pss_cons (ps_set (i := 2) sc__law_dip.nd rfl (Or.inl rfl) (pe_ifExp (pt_cmpR op_lt (pv 1) (pe_callB call_len_seq (by rfl) T.len PySem.boot_len (pa_cons (pv 0) pa_nil)) (nomark _)) (pe_ix ix_list (pv 0) (pv 1) (fun _ _ => rfl)) pe_int))
        (pss_one (ps_ret (pe_lst (pa_cons (pe_op op_mul (pe_callB call_abs (by rfl) T.abs (by decide +kernel) (pa_cons (pv 2) pa_nil)) (pe_callTy call_int1 (by rfl) T.int (by decide +kernel) (pa_cons (pe_cmpR op_ge (pe_callB call_abs (by rfl) T.abs (by decide +kernel) (pa_cons (pv 2) pa_nil)) (pe_op op_pow pe_int pe_int) (nomark _)) pa_nil))) (pa_cons (pe_op op_add (pe_op op_add (pe_op op_mod (pv 2) pe_int) (pe_op op_mul pe_int (pv 1))) pe_int) (pa_cons pe_int pa_nil))))))), ?_⟩
    have rest : ∀ c : Int, (tRet (tLst (tCons (tOp (rI CMul fun i j => .int (i * j)) (tCB (fun xs H Q => ∃ i, xs = [.int i] ∧ Q (.int (if i < 0 then -i else i)) H) (tCons (tVar 2) tNil))
        (tCB (fun xs H Q => (∃ i, xs = [.int i] ∧ Q (.int i) H) ∨ ∃ k, xs = [.bl k] ∧ Q (.int (if k then 1 else 0)) H) (tCons (tOp (rI0 fun i j => .bl (decide (j ≤ i))) (tCB (fun xs H Q => ∃ i, xs = [.int i] ∧ Q (.int (if i < 0 then -i else i)) H) (tCons (tVar 2) tNil)) (tOp (rI CPow fun i j => .int (i ^ j.toNat)) (tC (.int 10)) (tC (.int 18)))) tNil)))
        (tCons (tOp (rI0 fun i j => .int (i + j)) (tOp (rI0 fun i j => .int (i + j)) (tOp (rI (fun _ j => 0 < j) fun i j => .int (i % j)) (tVar 2) (tC (.int 2305843009213693951))) (tOp (rI CMul fun i j => .int (i * j)) (tC (.int 39373)) (tVar 1))) (tC (.int 17))) (tCons (tC (.int 0)) tNil)))))
        { nx := fun _ H' => Q .non H', rt := Q } [some (.ref a), some (.int k), some (.int c)] H := fun c => by
      refine ⟨_, rfl, c, rfl, _, rfl, c, rfl, _, _, rfl, rfl, ⟨by decide, by decide, by decide⟩, _, _, rfl, rfl, .inr ⟨_, rfl, ?_⟩⟩
      refine ⟨_, _, rfl, rfl, .inr (b01 _), ?_⟩
      refine ⟨_, rfl, _, _, rfl, rfl, (by show (0 : Int) < _; decide), _, rfl, _, _, rfl, rfl, .inl ⟨by decide, by decide⟩, _, _, rfl, rfl, _, _, rfl, rfl, ?_⟩
      refine ⟨by show 3 ≤ sizeLine; decide, fun p hp => q p _ hp ⟨_, _, 0, rfl, dip_b0 c _, ?_, ?_, Int.le_refl _, Int.le_refl _⟩⟩
      · have := Int.emod_nonneg c (show (2305843009213693951 : Int) ≠ 0 by decide)
        omega
      · have := Int.emod_lt_of_pos c (show (0 : Int) < 2305843009213693951 by decide)
        omega
    refine ⟨_, rfl, _, rfl, a, _, rfl, .inl hS, _, _, rfl, rfl, _, rfl, ite2 (fun e => ?_) (fun e => ?_)⟩
    · have hlt : k < ns.length := by
        have := of_decide_eq_true e
        rw [List.length_map] at this
        omega
      have g : (ns.map V.int)[k]? = some (.int ns[k]) := by
        rw [List.getElem?_map, List.getElem?_eq_getElem hlt]
        rfl
      exact ⟨_, rfl, _, rfl, a, _, k, .int ns[k], rfl, rfl, hS, atI_nat g, rest _⟩
    · exact rest 0
theorem ixN_nat {n j : Nat} (h : j < n) : ixN n (j : Int) = some j := by
  unfold ixN
  rw [if_pos (by omega), if_pos (by omega)]
  simp
theorem ok_folded (B : Bt mg) (D : Dd K mg "_law_folded" s__law_folded P__law_folded) : C8.Cal P w K mg base 1 "_law_folded" (spFold K) [] := by
  refine D.cal sc__law_folded (fun vs H Q E h => ?_) (fun f cdv A outer s H vs Q E hr h => ?_)
  · obtain ⟨a, size, ns, rfl, _⟩ := h
    rfl
  · obtain ⟨a, size, ns, rfl, hS, hl, h1, h8, q⟩ := h
    have T := B
    refine ⟨_, (pss_cons (ps_set (i := 2) sc__law_folded.nd rfl (Or.inl rfl) (pe_callTy call_list_of (by rfl) T.list (by decide +kernel) (pa_cons (pe_slice sl_list (pv 0) po_none (po_some (pv 1))) pa_nil)))
        (pss_cons (ps_for PassesOwn.never rfl (pi_enum (by rfl) T.enumerate (pa_cons (pe_slice sl_list (pv 0) (po_some (pv 1)) (po_some pe_int)) pa_nil)) (pg_tup rfl (pgs_cons (pg_name (i := 3) sc__law_folded.nd rfl (Or.inl rfl)) (pgs_cons (pg_name (i := 4) sc__law_folded.nd rfl (Or.inl rfl)) pgs_nil)))
          (pss_one (ps_asg (pe_op op_add (pe_ix ix_list (pv 2) (pe_op op_mod (pv 3) (pv 1)) (fun _ _ => rfl)) (pe_op op_mul (pv 4) (pe_op op_add (pv 3) pe_int))) (pg_sub (pv 2) (pe_op op_mod (pv 3) (pv 1)) set_list))))
        (pss_one (ps_ret (pv 2))))), ?_⟩
    -- cells = list(script[:size])
    refine ⟨_, rfl, _, rfl, _, rfl, a, _, rfl, hS, fun c1 n1 => ⟨c1, _, rfl, .inl (SqL.of upd_same), fun l nl => ?_⟩⟩
    have s1 : Same H (upd H c1 (.lst (cutV (ns.map V.int) none (some (size : Int))))) := same_upd n1
    have s2 := s1.trans (same_upd (o := .lst (cutV (ns.map V.int) none (some (size : Int)))) nl)
    -- enumerate(script[size:63])
    refine ⟨_, rfl, _, rfl, _, rfl, _, rfl, a, _, rfl, s2.seq hS, fun c2 n2 => ⟨c2, _, rfl, SqL.of upd_same, ?_⟩⟩
    have nlc : l ≠ c2 := fun e => by
      rw [e] at n2
      rw [← e, upd_same] at n2
      cases n2
    refine for_it walk_enum (fun i σ H3 => ∃ y3 y4, ∃ ms : List Int, σ = [some (.ref a), some (.int size), some (.ref l), y3, y4] ∧ Same H H3 ∧ H3 c2 = some (.lst (cutV (ns.map V.int) (some (size : Int)) (some 63))) ∧ H3 l = some (.lst (ms.map V.int)) ∧ ms.length = min size ns.length)
      ⟨none, none, ns.take size, rfl, s2.trans (same_upd n2), upd_same, ?_, by rw [List.length_take]⟩ (fun i σ H3 _ ⟨_, _, _, _, _, hc, _⟩ => SqL.of hc) ?_ ?_
    · rw [upd_ne nlc, upd_same, cut_to]
    · rintro i v σ H3 H4 hi ⟨y3, y4, ms, rfl, sm, hc, hm, hml⟩ ⟨T, x, y, rfl, nT, rfl, ex, ey⟩
      cases ex
      obtain ⟨rs, ers, _⟩ := cut_ints ns (some (size : Int)) (some 63)
      have hsz : size ≤ ns.length := by
        apply Classical.byContradiction
        intro hh
        rw [cut_from_nil ns size (by omega)] at hi
        simp at hi
      have hms : ms.length = size := by omega
      rw [ers] at ey
      rw [ers, List.length_map] at hi
      have ey' : y = .int rs[i] := by
        replace ey : (List.map V.int rs)[i]? = some y := ey
        rw [List.getElem?_map, List.getElem?_eq_getElem hi] at ey
        exact (Option.some.inj ey).symm
      subst ey'
      have hi63 : i < 63 := by omega
      have nTl : l ≠ T := ne_of_none hm nT
      have nTc : c2 ≠ T := ne_of_none hc nT
      have hm' : (upd H3 T (.tup [.int (i : Nat), .int rs[i]])) l = some (.lst (ms.map V.int)) := by
        rw [upd_ne nTl]
        exact hm
      have hj : i % size < ms.length := by
        rw [hms]
        exact Nat.mod_lt _ (by omega)
      have g : (ms.map V.int)[i % size]? = some (.int ms[i % size]) := by
        rw [List.getElem?_map, List.getElem?_eq_getElem hj]
        rfl
      have ei : ((i : Nat) : Int) % ((size : Nat) : Int) = ((i % size : Nat) : Int) := by omega
      refine ⟨T, _, rfl, SqT.of upd_same, rfl, _, _, rfl, _, _, rfl, rfl, ?_⟩
      refine ⟨_, rfl, _, rfl, _, rfl, _, _, rfl, rfl, (by show (0 : Int) < _; omega), l, _, _, .int ms[i % size], rfl, rfl, SqL.of hm', ?_, ?_⟩
      · rw [ei]
        exact atI_nat g
      refine ⟨_, rfl, _, rfl, _, _, rfl, rfl, _, _, rfl, rfl, .inr ⟨by omega, by omega⟩, _, _, rfl, rfl, _, rfl, _, rfl, _, rfl, _, _, rfl, rfl, (by show (0 : Int) < _; omega), l, _, _, i % size, rfl, rfl, hm', ?_, ?_⟩
      · rw [ei, List.length_map]
        exact ixN_nat hj
      · refine ⟨_, _, ms.set (i % size) (ms[i % size] + rs[i] * ((i : Int) + 2)), rfl, fun b z e => ?_, ?_, ?_, by rw [List.length_set]; exact hml⟩
        · have nb : b ≠ l := by
            intro eb
            rw [eb] at e
            have e2 := s1 _ _ e
            rw [e2] at nl
            cases nl
          rw [upd_ne nb]
          exact same_upd nT _ _ (sm _ _ e)
        · rw [upd_ne nlc.symm, upd_ne nTc]
          exact hc
        · rw [upd_same, List.map_set]
    · rintro σ H3 ⟨y3, y4, ms, rfl, sm, hc, hm, hml⟩
      exact ⟨_, rfl, q H3 l ms sm (s1.free nl) hm (by omega)⟩
end
abbrev s__law_thing : Stmt := top 33
abbrev N__law_thing : List Str := ["_law_box", "_law_some"]
abbrev P__law_thing : List Str := ["_law_box"]
theorem sc__law_thing : FnScope N__law_thing P__law_thing (defScope s__law_thing) := ⟨rfl, rfl, rfl, by decide +kernel, rfl, by decide +kernel, by decide +kernel⟩
/-- all but what stands at a, for sure -/
def Off (a : Addr) (H : Hp) : Hp := fun b => if b = a then none else H b
theorem Off.of {a : Addr} {H H' : Hp} (x : But a H H') : Same (Off a H) H' := fun b o h => by
  unfold Off at h
  split at h
  · cases h
  · exact x b o (by assumption) h
theorem Off.but {a : Addr} {H H' : Hp} (x : But a H H') : Same (Off a H) (Off a H') := fun b o h => by
  unfold Off at h ⊢
  split at h
  · cases h
  · rename_i n
    rw [if_neg n]
    exact x b o n h
def spThing (K : PySem.W.Frag) : Sp := fun vs H Q _ => ∃ (a : Addr) (n : Nat) (b : List V), vs = [.ref a] ∧ H a = some (.lst b) ∧ BoxL n b ∧ n < 900000 ∧
  ∀ (H' : Hp) (v : V) (d : PyData) (b' : List V), But a H H' → H' a = some (.lst b') → BoxL (n + 2) b' → Dp K (Off a H') v d → Sm 4 d → Q v H'
section
variable {P : Program} {w : World} {K : PySem.W.Frag} {mg : Str → Option Value} {base : Heap}
theorem ok_thing (c_law_take : C8.Cal P w K mg base 1 "_law_take" spTake []) (D : Dd K mg "_law_thing" s__law_thing P__law_thing) : C8.Cal P w K mg base 2 "_law_thing" (spThing K) [] := by
  refine D.cal sc__law_thing (fun vs H Q E h => ?_) (fun f cdv A outer s H vs Q E hr h => ?_)
  · obtain ⟨a, n, b, rfl, _⟩ := h
    rfl
  · obtain ⟨a, n, b, rfl, ha, hB, hn, q⟩ := h
    refine ⟨_, (pss_cons (ps_set (i := 1) sc__law_thing.nd rfl (Or.inl rfl) (pe_lst (pa_cons (C8.pe_c c_law_take hr (by decide) (by rfl) (pa_cons (pv 0) (pa_cons (pe_op op_pow pe_int pe_int) pa_nil))) (pa_cons pe_str (pa_cons pe_str (pa_cons (pe_tup pa_nil) (pa_cons (pe_tup (pa_cons pe_int (pa_cons pe_int pa_nil))) (pa_cons (pe_lst (pa_cons (pe_tup (pa_cons (pe_tup (pa_cons pe_int pa_nil)) (pa_cons pe_str pa_nil))) pa_nil)) (pa_cons (pe_tup (pa_cons pe_str (pa_cons pe_int (pa_cons (pe_tup pa_nil) pa_nil)))) (pa_cons pe_non (pa_cons pe_str (pa_cons (pe_tup (pa_cons pe_int (pa_cons pe_str pa_nil))) pa_nil))))))))))))
        (pss_one (ps_ret (pe_ix ix_list (pv 1) (C8.pe_c c_law_take hr (by decide) (by rfl) (pa_cons (pv 0) (pa_cons pe_int pa_nil))) (fun _ _ => rfl))))), ?_⟩
    refine ⟨_, rfl, _, _, rfl, rfl, ⟨by decide, by decide, by decide⟩, a, _, n, b, rfl, ha, hB, by omega, by decide, by decide, fun r1 b1 h1 h1' hB1 => ?_⟩
    refine ⟨by show 0 ≤ sizeLine; decide, fun t1 n1 => ⟨by show 2 ≤ sizeLine; decide, fun t2 n2 => ⟨by show 1 ≤ sizeLine; decide, fun t3 n3 => ⟨by show 2 ≤ sizeLine; decide, fun t4 n4 => ⟨by show 1 ≤ sizeLine; decide, fun t5 n5 =>
      ⟨by show 0 ≤ sizeLine; decide, fun t6 n6 => ⟨by show 3 ≤ sizeLine; decide, fun t7 n7 => ⟨by show 2 ≤ sizeLine; decide, fun t8 n8 => ⟨by show 10 ≤ sizeLine; decide, fun l nl => ?_⟩⟩⟩⟩⟩⟩⟩⟩⟩
    have x9 := same_upd (o := .lst [.int r1, .str "plus", .str "abcdef", .ref t1, .ref t2, .ref t5, .ref t7, .non, .str "", .ref t8]) nl
    have x8 := Same.trans (same_upd (o := .tup [.int 3, .str "x"]) n8) x9
    have x7 := Same.trans (same_upd (o := .tup [.str "leaf", .int 0, .ref t6]) n7) x8
    have x6 := Same.trans (same_upd (o := .tup []) n6) x7
    have x5 := Same.trans (same_upd (o := .lst [.ref t4]) n5) x6
    have x4 := Same.trans (same_upd (o := .tup [.ref t3, .str "up"]) n4) x5
    have x3 := Same.trans (same_upd (o := .tup [.int 1]) n3) x4
    have x2 := Same.trans (same_upd (o := .tup [.int 1, .int 2]) n2) x3
    have x1 := Same.trans (same_upd (o := .tup []) n1) x2
    have haL := x1 _ _ (upd_same (H := H) (a := a) (o := .lst b1))
    have hL := upd_same (H := upd (upd (upd (upd (upd (upd (upd (upd (upd H a (.lst b1)) t1 (.tup [])) t2 (.tup [.int 1, .int 2])) t3 (.tup [.int 1])) t4 (.tup [.ref t3, .str "up"])) t5 (.lst [.ref t4])) t6 (.tup [])) t7 (.tup [.str "leaf", .int 0, .ref t6])) t8 (.tup [.int 3, .str "x"])) (a := l)
      (o := .lst [.int r1, .str "plus", .str "abcdef", .ref t1, .ref t2, .ref t5, .ref t7, .non, .str "", .ref t8])
    obtain ⟨G, eG⟩ : ∃ G, G = upd (upd (upd (upd (upd (upd (upd (upd (upd (upd H a (.lst b1)) t1 (.tup [])) t2 (.tup [.int 1, .int 2])) t3 (.tup [.int 1])) t4 (.tup [.ref t3, .str "up"])) t5 (.lst [.ref t4])) t6 (.tup [])) t7 (.tup [.str "leaf", .int 0, .ref t6])) t8 (.tup [.int 3, .str "x"])) l (.lst [.int r1, .str "plus", .str "abcdef", .ref t1, .ref t2, .ref t5, .ref t7, .non, .str "", .ref t8]) := ⟨_, rfl⟩
    have g1 := x2 _ _ upd_same
    have g2 := x3 _ _ upd_same
    have g3 := x4 _ _ upd_same
    have g4 := x5 _ _ upd_same
    have g5 := x6 _ _ upd_same
    have g6 := x7 _ _ upd_same
    have g7 := x8 _ _ upd_same
    have g8 := x9 _ _ upd_same
    rw [← eG] at haL hL g1 g2 g3 g4 g5 g6 g7 g8 x1 ⊢
    refine ⟨_, rfl, _, rfl, a, 10, n + 1, b1, rfl, haL, hB1, by omega, by decide, by decide, fun r2 b2 h2 h2' hB2 => ?_⟩
    have off : ∀ {z : Addr} {o : HO}, G z = some o → (∀ c0 c1 c2 : Int, o ≠ .lst [.int c0, .int c1, .int c2]) → (upd G a (.lst b2)) z = some o := fun {z o} hz ho => by
      rw [upd_ne (fun e => ?_)]
      · exact hz
      · rw [e, haL] at hz
        obtain ⟨c0, c1, c2, eb, _⟩ := hB1
        rw [eb] at hz
        exact ho c0 c1 c2 (Option.some.inj hz).symm
    have offX : ∀ {z : Addr} {o : HO}, G z = some o → (∀ c0 c1 c2 : Int, o ≠ .lst [.int c0, .int c1, .int c2]) → (Off a (upd G a (.lst b2))) z = some o := fun {z o} hz ho => by
      have hh := off hz ho
      unfold Off
      rw [if_neg (fun e => ?_)]
      · exact hh
      · rw [e, haL] at hz
        obtain ⟨c0, c1, c2, eb, _⟩ := hB1
        rw [eb] at hz
        exact ho c0 c1 c2 (Option.some.inj hz).symm
    have k1 := offX g1 (fun _ _ _ z => by cases z)
    have k2 := offX g2 (fun _ _ _ z => by cases z)
    have k3 := offX g3 (fun _ _ _ z => by cases z)
    have k4 := offX g4 (fun _ _ _ z => by cases z)
    have k5 := offX g5 (fun _ _ _ z => by cases z)
    have k6 := offX g6 (fun _ _ _ z => by cases z)
    have k7 := offX g7 (fun _ _ _ z => by cases z)
    have k8 := offX g8 (fun _ _ _ z => by cases z)
    have kL := off hL (fun _ _ _ z => by cases z)
    have bt : But a H (upd G a (.lst b2)) := But.upd ((But.upd (But.refl a H)).trans (But.of x1))
    have hc : r2 = 0 ∨ r2 = 1 ∨ r2 = 2 ∨ r2 = 3 ∨ r2 = 4 ∨ r2 = 5 ∨ r2 = 6 ∨ r2 = 7 ∨ r2 = 8 ∨ r2 = 9 := by omega
    rcases hc with rfl | rfl | rfl | rfl | rfl | rfl | rfl | rfl | rfl | rfl
    · exact ⟨l, _, _, _, rfl, rfl, SqL.of kL, atI_nat (j := 0) rfl, q _ _ _ b2 bt upd_same hB2 (.int _) (.int _ _)⟩
    · exact ⟨l, _, _, _, rfl, rfl, SqL.of kL, atI_nat (j := 1) rfl, q _ _ _ b2 bt upd_same hB2 (.str _) (.str _ _)⟩
    · exact ⟨l, _, _, _, rfl, rfl, SqL.of kL, atI_nat (j := 2) rfl, q _ _ _ b2 bt upd_same hB2 (.str _) (.str _ _)⟩
    · exact ⟨l, _, _, _, rfl, rfl, SqL.of kL, atI_nat (j := 3) rfl, q _ _ (.tuple []) b2 bt upd_same hB2 (.tup (SqT.of k1) .nil) (.tup 3 (by decide) (by simp))⟩
    · exact ⟨l, _, _, _, rfl, rfl, SqL.of kL, atI_nat (j := 4) rfl, q _ _ (.tuple [.int 1, .int 2]) b2 bt upd_same hB2 (.tup (SqT.of k2) (.cons (.int _) (.cons (.int _) .nil))) (.tup 3 (by simp) (fun d hd => by
        simp only [List.mem_cons, List.not_mem_nil, or_false] at hd
        rcases hd with rfl | rfl <;> exact .int _ _))⟩
    · exact ⟨l, _, _, _, rfl, rfl, SqL.of kL, atI_nat (j := 5) rfl, q _ _ (.list [.tuple [.tuple [.int 1], .str "up"]]) b2 bt upd_same hB2 (.lst (SqL.of k5) (.cons (.tup (SqT.of k4) (.cons (.tup (SqT.of k3) (.cons (.int _) .nil)) (.cons (.str _) .nil))) .nil)) (.lst 3 (by simp) (fun d hd => by
        rw [List.mem_singleton.mp hd]
        refine .tup 2 (by simp) (fun d hd => ?_)
        simp only [List.mem_cons, List.not_mem_nil, or_false] at hd
        rcases hd with rfl | rfl
        · refine .tup 1 (by simp) (fun d hd => ?_)
          rw [List.mem_singleton.mp hd]
          exact .int _ _
        · exact .str _ _))⟩
    · exact ⟨l, _, _, _, rfl, rfl, SqL.of kL, atI_nat (j := 6) rfl, q _ _ (.tuple [.str "leaf", .int 0, .tuple []]) b2 bt upd_same hB2 (.tup (SqT.of k7) (.cons (.str _) (.cons (.int _) (.cons (.tup (SqT.of k6) .nil) .nil)))) (.tup 3 (by simp) (fun d hd => by
        simp only [List.mem_cons, List.not_mem_nil, or_false] at hd
        rcases hd with rfl | rfl | rfl
        · exact .str _ _
        · exact .int _ _
        · exact .tup 2 (by simp) (by simp)))⟩
    · exact ⟨l, _, _, _, rfl, rfl, SqL.of kL, atI_nat (j := 7) rfl, q _ _ _ b2 bt upd_same hB2 .non (.non _)⟩
    · exact ⟨l, _, _, _, rfl, rfl, SqL.of kL, atI_nat (j := 8) rfl, q _ _ _ b2 bt upd_same hB2 (.str _) (.str _ _)⟩
    · exact ⟨l, _, _, _, rfl, rfl, SqL.of kL, atI_nat (j := 9) rfl, q _ _ (.tuple [.int 3, .str "x"]) b2 bt upd_same hB2 (.tup (SqT.of k8) (.cons (.int _) (.cons (.str _) .nil))) (.tup 3 (by simp) (fun d hd => by
        simp only [List.mem_cons, List.not_mem_nil, or_false] at hd
        rcases hd with rfl | rfl
        · exact .int _ _
        · exact .str _ _))⟩
end
abbrev s__law_fields : Stmt := top 32
abbrev N__law_fields : List Str := ["_law_some", "_law_found"]
abbrev P__law_fields : List Str := ["_law_some"]
theorem sc__law_fields : FnScope N__law_fields P__law_fields (defScope s__law_fields) := ⟨rfl, rfl, rfl, by decide +kernel, rfl, by decide +kernel, by decide +kernel⟩
/-- what the law asks of the eighteen classes -/
structure Nf (K : PySem.W.Frag) (CA : Nat → Addr) : Prop where
  x0 : XvC K (CA 0)
  f0 : PySem.W.findIn K (.ref (CA 0)) "part" = some none
  g0 : PySem.W.findIn K (.ref (CA 0)) "row" = some none
  x1 : XvC K (CA 1)
  f1 : PySem.W.findIn K (.ref (CA 1)) "row" = some none
  x2 : XvC K (CA 2)
  f2 : PySem.W.findIn K (.ref (CA 2)) "at" = some none
  x3 : XvC K (CA 3)
  f3 : PySem.W.findIn K (.ref (CA 3)) "thing" = some none
  x4 : XvC K (CA 4)
  f4 : PySem.W.findIn K (.ref (CA 4)) "thing" = some none
  x5 : XvC K (CA 5)
  f5 : PySem.W.findIn K (.ref (CA 5)) "op" = some none
  g5 : PySem.W.findIn K (.ref (CA 5)) "under" = some none
  x6 : XvC K (CA 6)
  f6 : PySem.W.findIn K (.ref (CA 6)) "under" = some none
  x7 : XvC K (CA 7)
  f7 : PySem.W.findIn K (.ref (CA 7)) "name" = some none
  x8 : XvC K (CA 8)
  f8 : PySem.W.findIn K (.ref (CA 8)) "op" = some none
  x9 : XvC K (CA 9)
  f9 : PySem.W.findIn K (.ref (CA 9)) "making" = some none
  x10 : XvC K (CA 10)
  f10 : PySem.W.findIn K (.ref (CA 10)) "spot" = some none
  x11 : XvC K (CA 11)
  f11 : PySem.W.findIn K (.ref (CA 11)) "path" = some none
  x12 : XvC K (CA 12)
  f12 : PySem.W.findIn K (.ref (CA 12)) "ring" = some none
  x13 : XvC K (CA 13)
  f13 : PySem.W.findIn K (.ref (CA 13)) "least" = some none
  g13 : PySem.W.findIn K (.ref (CA 13)) "ring" = some none
  x14 : XvC K (CA 14)
  f14 : PySem.W.findIn K (.ref (CA 14)) "clash" = some none
  x15 : XvC K (CA 15)
  f15 : PySem.W.findIn K (.ref (CA 15)) "name" = some none
  x16 : XvC K (CA 16)
  f16 : PySem.W.findIn K (.ref (CA 16)) "spots" = some none
  x17 : XvC K (CA 17)
  f17 : PySem.W.findIn K (.ref (CA 17)) "many" = some none
def dueData (da db : PyData) : List PyData := [.tuple [da, db], da, da, da, da, .tuple [da, db], da, da, da, da, da, da, da, .tuple [da, db], da, da, da, da]
def spFields (K : PySem.W.Frag) (CA : Nat → Addr) : Sp := fun vs H Q _ => ∃ (l : Addr) (es : List Addr) (da db : PyData), vs = [.ref l] ∧ H l = some (.lst (es.map V.ref)) ∧ Ers K H CA es da db ∧
  ∀ (H' : Hp) (r : Addr), Same H H' → Dp K H' (.ref r) (.list (dueData da db)) → Q (.ref r) H'
section
variable {P : Program} {w : World} {K : PySem.W.Frag} {mg : Str → Option Value} {base : Heap} {CA : Nat → Addr}
theorem ok_fields (N : Nf K CA) (D : Dd K mg "_law_fields" s__law_fields P__law_fields) : C8.Cal P w K mg base 1 "_law_fields" (spFields K CA) [] := by
  refine D.cal sc__law_fields (fun vs H Q E h => ?_) (fun f cdv A outer s H vs Q E hr h => ?_)
  · obtain ⟨l, es, da, db, rfl, _⟩ := h
    rfl
  · obtain ⟨l, es, da, db, rfl, hl, ⟨h18, hE⟩, q⟩ := h
    refine ⟨_, (pss_cons (ps_set (i := 1) sc__law_fields.nd rfl (Or.inl rfl) (pe_lst (pa_cons (pe_tup (pa_cons (pe_xv (pe_ix ix_list (pv 0) pe_int (fun _ _ => rfl))) (pa_cons (pe_xv (pe_ix ix_list (pv 0) pe_int (fun _ _ => rfl))) pa_nil))) (pa_cons (pe_xv (pe_ix ix_list (pv 0) pe_int (fun _ _ => rfl))) (pa_cons (pe_xv (pe_ix ix_list (pv 0) pe_int (fun _ _ => rfl))) (pa_cons (pe_xv (pe_ix ix_list (pv 0) pe_int (fun _ _ => rfl))) (pa_cons (pe_xv (pe_ix ix_list (pv 0) pe_int (fun _ _ => rfl))) pa_nil)))))))
        (pss_cons (ps_set (i := 1) sc__law_fields.nd rfl (Or.inl rfl) (pe_op op_cat (pv 1) (pe_lst (pa_cons (pe_tup (pa_cons (pe_xv (pe_ix ix_list (pv 0) pe_int (fun _ _ => rfl))) (pa_cons (pe_xv (pe_ix ix_list (pv 0) pe_int (fun _ _ => rfl))) pa_nil))) (pa_cons (pe_xv (pe_ix ix_list (pv 0) pe_int (fun _ _ => rfl))) (pa_cons (pe_xv (pe_ix ix_list (pv 0) pe_int (fun _ _ => rfl))) (pa_cons (pe_xv (pe_ix ix_list (pv 0) pe_int (fun _ _ => rfl))) (pa_cons (pe_xv (pe_ix ix_list (pv 0) pe_int (fun _ _ => rfl))) pa_nil))))))))
        (pss_cons (ps_set (i := 1) sc__law_fields.nd rfl (Or.inl rfl) (pe_op op_cat (pv 1) (pe_lst (pa_cons (pe_xv (pe_ix ix_list (pv 0) pe_int (fun _ _ => rfl))) (pa_cons (pe_xv (pe_ix ix_list (pv 0) pe_int (fun _ _ => rfl))) (pa_cons (pe_xv (pe_ix ix_list (pv 0) pe_int (fun _ _ => rfl))) (pa_cons (pe_tup (pa_cons (pe_xv (pe_ix ix_list (pv 0) pe_int (fun _ _ => rfl))) (pa_cons (pe_xv (pe_ix ix_list (pv 0) pe_int (fun _ _ => rfl))) pa_nil))) (pa_cons (pe_xv (pe_ix ix_list (pv 0) pe_int (fun _ _ => rfl))) pa_nil))))))))
        (pss_one (ps_ret (pe_op op_cat (pv 1) (pe_lst (pa_cons (pe_xv (pe_ix ix_list (pv 0) pe_int (fun _ _ => rfl))) (pa_cons (pe_xv (pe_ix ix_list (pv 0) pe_int (fun _ _ => rfl))) (pa_cons (pe_xv (pe_ix ix_list (pv 0) pe_int (fun _ _ => rfl))) pa_nil)))))))))), ?_⟩
    match es, h18, hl, hE with
    | [e0, e1, e2, e3, e4, e5, e6, e7, e8, e9, e10, e11, e12, e13, e14, e15, e16, e17], _, hl, hE =>
      obtain ⟨y0, u0, ⟨d0, a0, c0⟩, p0, v0⟩ := (hE 0 e0 rfl : ErK K H e0 (CA 0) 0 da db)
      obtain ⟨y1, ⟨d1, a1, c1⟩, p1⟩ := (hE 1 e1 rfl : ErK K H e1 (CA 1) 1 da db)
      obtain ⟨y2, ⟨d2, a2, c2⟩, p2⟩ := (hE 2 e2 rfl : ErK K H e2 (CA 2) 2 da db)
      obtain ⟨y3, ⟨d3, a3, c3⟩, p3⟩ := (hE 3 e3 rfl : ErK K H e3 (CA 3) 3 da db)
      obtain ⟨y4, ⟨d4, a4, c4⟩, p4⟩ := (hE 4 e4 rfl : ErK K H e4 (CA 4) 4 da db)
      obtain ⟨y5, u5, ⟨d5, a5, c5⟩, p5, v5⟩ := (hE 5 e5 rfl : ErK K H e5 (CA 5) 5 da db)
      obtain ⟨y6, ⟨d6, a6, c6⟩, p6⟩ := (hE 6 e6 rfl : ErK K H e6 (CA 6) 6 da db)
      obtain ⟨y7, ⟨d7, a7, c7⟩, p7⟩ := (hE 7 e7 rfl : ErK K H e7 (CA 7) 7 da db)
      obtain ⟨y8, ⟨d8, a8, c8⟩, p8⟩ := (hE 8 e8 rfl : ErK K H e8 (CA 8) 8 da db)
      obtain ⟨y9, ⟨d9, a9, c9⟩, p9⟩ := (hE 9 e9 rfl : ErK K H e9 (CA 9) 9 da db)
      obtain ⟨y10, ⟨d10, a10, c10⟩, p10⟩ := (hE 10 e10 rfl : ErK K H e10 (CA 10) 10 da db)
      obtain ⟨y11, ⟨d11, a11, c11⟩, p11⟩ := (hE 11 e11 rfl : ErK K H e11 (CA 11) 11 da db)
      obtain ⟨y12, ⟨d12, a12, c12⟩, p12⟩ := (hE 12 e12 rfl : ErK K H e12 (CA 12) 12 da db)
      obtain ⟨y13, u13, ⟨d13, a13, c13⟩, p13, v13⟩ := (hE 13 e13 rfl : ErK K H e13 (CA 13) 13 da db)
      obtain ⟨y14, ⟨d14, a14, c14⟩, p14⟩ := (hE 14 e14 rfl : ErK K H e14 (CA 14) 14 da db)
      obtain ⟨y15, ⟨d15, a15, c15⟩, p15⟩ := (hE 15 e15 rfl : ErK K H e15 (CA 15) 15 da db)
      obtain ⟨y16, ⟨d16, a16, c16⟩, p16⟩ := (hE 16 e16 rfl : ErK K H e16 (CA 16) 16 da db)
      obtain ⟨y17, ⟨d17, a17, c17⟩, p17⟩ := (hE 17 e17 rfl : ErK K H e17 (CA 17) 17 da db)
      have z0 : Same H H := Same.refl H
      have hl : H l = some (.lst [.ref e0, .ref e1, .ref e2, .ref e3, .ref e4, .ref e5, .ref e6, .ref e7, .ref e8, .ref e9, .ref e10, .ref e11, .ref e12, .ref e13, .ref e14, .ref e15, .ref e16, .ref e17]) := hl
      refine ⟨_, rfl, l, _, 0, .ref e0, rfl, rfl, SqL.of (z0 _ _ hl), atI_nat (j := 0) rfl, e0, CA 0, d0, [("row", u0), ("part", y0)], y0, rfl, z0 _ _ a0, N.x0, N.f0, z0 _ _ c0, rfl, ?_⟩
      refine ⟨_, rfl, l, _, 0, .ref e0, rfl, rfl, SqL.of (z0 _ _ hl), atI_nat (j := 0) rfl, e0, CA 0, d0, [("row", u0), ("part", y0)], u0, rfl, z0 _ _ a0, N.x0, N.g0, z0 _ _ c0, rfl, ?_⟩
      refine ⟨by show 2 ≤ sizeLine; decide, fun t0 n0 => ?_⟩
      have s0 := same_upd (o := .tup [y0, u0]) n0
      have w0 := Same.trans z0 s0
      refine ⟨_, rfl, l, _, 1, .ref e1, rfl, rfl, SqL.of (w0 _ _ hl), atI_nat (j := 1) rfl, e1, CA 1, d1, [("row", y1)], y1, rfl, w0 _ _ a1, N.x1, N.f1, w0 _ _ c1, rfl, ?_⟩
      refine ⟨_, rfl, l, _, 2, .ref e2, rfl, rfl, SqL.of (w0 _ _ hl), atI_nat (j := 2) rfl, e2, CA 2, d2, [("at", y2)], y2, rfl, w0 _ _ a2, N.x2, N.f2, w0 _ _ c2, rfl, ?_⟩
      refine ⟨_, rfl, l, _, 3, .ref e3, rfl, rfl, SqL.of (w0 _ _ hl), atI_nat (j := 3) rfl, e3, CA 3, d3, [("thing", y3)], y3, rfl, w0 _ _ a3, N.x3, N.f3, w0 _ _ c3, rfl, ?_⟩
      refine ⟨_, rfl, l, _, 4, .ref e4, rfl, rfl, SqL.of (w0 _ _ hl), atI_nat (j := 4) rfl, e4, CA 4, d4, [("thing", y4)], y4, rfl, w0 _ _ a4, N.x4, N.f4, w0 _ _ c4, rfl, ?_⟩
      refine ⟨by show 5 ≤ sizeLine; decide, fun l0 m0 => ?_⟩
      have b0 := same_upd (o := .lst [.ref t0, y1, y2, y3, y4]) m0
      have k0 := Same.trans w0 b0
      refine ⟨_, rfl, ?_⟩
      refine ⟨_, rfl, l, _, 5, .ref e5, rfl, rfl, SqL.of (k0 _ _ hl), atI_nat (j := 5) rfl, e5, CA 5, d5, [("under", u5), ("op", y5)], y5, rfl, k0 _ _ a5, N.x5, N.f5, k0 _ _ c5, rfl, ?_⟩
      refine ⟨_, rfl, l, _, 5, .ref e5, rfl, rfl, SqL.of (k0 _ _ hl), atI_nat (j := 5) rfl, e5, CA 5, d5, [("under", u5), ("op", y5)], u5, rfl, k0 _ _ a5, N.x5, N.g5, k0 _ _ c5, rfl, ?_⟩
      refine ⟨by show 2 ≤ sizeLine; decide, fun t5 n5 => ?_⟩
      have s5 := same_upd (o := .tup [y5, u5]) n5
      have w5 := Same.trans k0 s5
      refine ⟨_, rfl, l, _, 6, .ref e6, rfl, rfl, SqL.of (w5 _ _ hl), atI_nat (j := 6) rfl, e6, CA 6, d6, [("under", y6)], y6, rfl, w5 _ _ a6, N.x6, N.f6, w5 _ _ c6, rfl, ?_⟩
      refine ⟨_, rfl, l, _, 7, .ref e7, rfl, rfl, SqL.of (w5 _ _ hl), atI_nat (j := 7) rfl, e7, CA 7, d7, [("name", y7)], y7, rfl, w5 _ _ a7, N.x7, N.f7, w5 _ _ c7, rfl, ?_⟩
      refine ⟨_, rfl, l, _, 8, .ref e8, rfl, rfl, SqL.of (w5 _ _ hl), atI_nat (j := 8) rfl, e8, CA 8, d8, [("op", y8)], y8, rfl, w5 _ _ a8, N.x8, N.f8, w5 _ _ c8, rfl, ?_⟩
      refine ⟨_, rfl, l, _, 9, .ref e9, rfl, rfl, SqL.of (w5 _ _ hl), atI_nat (j := 9) rfl, e9, CA 9, d9, [("making", y9)], y9, rfl, w5 _ _ a9, N.x9, N.f9, w5 _ _ c9, rfl, ?_⟩
      refine ⟨by show 5 ≤ sizeLine; decide, fun l1 m1 => ?_⟩
      have b1 := same_upd (o := .lst [.ref t5, y6, y7, y8, y9]) m1
      have k1 := Same.trans w5 b1
      refine ⟨l0, l1, _, _, rfl, rfl, b1 _ _ (s5 _ _ upd_same), upd_same, by show 10 ≤ sizeLine; decide, fun x1 g1 => ?_⟩
      have j1 := same_upd (o := .lst ([.ref t0, y1, y2, y3, y4] ++ [.ref t5, y6, y7, y8, y9])) g1
      have o1 := Same.trans k1 j1
      refine ⟨_, rfl, ?_⟩
      refine ⟨_, rfl, l, _, 10, .ref e10, rfl, rfl, SqL.of (o1 _ _ hl), atI_nat (j := 10) rfl, e10, CA 10, d10, [("spot", y10)], y10, rfl, o1 _ _ a10, N.x10, N.f10, o1 _ _ c10, rfl, ?_⟩
      refine ⟨_, rfl, l, _, 11, .ref e11, rfl, rfl, SqL.of (o1 _ _ hl), atI_nat (j := 11) rfl, e11, CA 11, d11, [("path", y11)], y11, rfl, o1 _ _ a11, N.x11, N.f11, o1 _ _ c11, rfl, ?_⟩
      refine ⟨_, rfl, l, _, 12, .ref e12, rfl, rfl, SqL.of (o1 _ _ hl), atI_nat (j := 12) rfl, e12, CA 12, d12, [("ring", y12)], y12, rfl, o1 _ _ a12, N.x12, N.f12, o1 _ _ c12, rfl, ?_⟩
      refine ⟨_, rfl, l, _, 13, .ref e13, rfl, rfl, SqL.of (o1 _ _ hl), atI_nat (j := 13) rfl, e13, CA 13, d13, [("ring", u13), ("least", y13)], y13, rfl, o1 _ _ a13, N.x13, N.f13, o1 _ _ c13, rfl, ?_⟩
      refine ⟨_, rfl, l, _, 13, .ref e13, rfl, rfl, SqL.of (o1 _ _ hl), atI_nat (j := 13) rfl, e13, CA 13, d13, [("ring", u13), ("least", y13)], u13, rfl, o1 _ _ a13, N.x13, N.g13, o1 _ _ c13, rfl, ?_⟩
      refine ⟨by show 2 ≤ sizeLine; decide, fun t13 n13 => ?_⟩
      have s13 := same_upd (o := .tup [y13, u13]) n13
      have w13 := Same.trans o1 s13
      refine ⟨_, rfl, l, _, 14, .ref e14, rfl, rfl, SqL.of (w13 _ _ hl), atI_nat (j := 14) rfl, e14, CA 14, d14, [("clash", y14)], y14, rfl, w13 _ _ a14, N.x14, N.f14, w13 _ _ c14, rfl, ?_⟩
      refine ⟨by show 5 ≤ sizeLine; decide, fun l2 m2 => ?_⟩
      have b2 := same_upd (o := .lst [y10, y11, y12, .ref t13, y14]) m2
      have k2 := Same.trans w13 b2
      refine ⟨x1, l2, _, _, rfl, rfl, b2 _ _ (s13 _ _ upd_same), upd_same, by show 15 ≤ sizeLine; decide, fun x2 g2 => ?_⟩
      have j2 := same_upd (o := .lst ([.ref t0, y1, y2, y3, y4] ++ [.ref t5, y6, y7, y8, y9] ++ [y10, y11, y12, .ref t13, y14])) g2
      have o2 := Same.trans k2 j2
      refine ⟨_, rfl, ?_⟩
      refine ⟨_, rfl, l, _, 15, .ref e15, rfl, rfl, SqL.of (o2 _ _ hl), atI_nat (j := 15) rfl, e15, CA 15, d15, [("name", y15)], y15, rfl, o2 _ _ a15, N.x15, N.f15, o2 _ _ c15, rfl, ?_⟩
      refine ⟨_, rfl, l, _, 16, .ref e16, rfl, rfl, SqL.of (o2 _ _ hl), atI_nat (j := 16) rfl, e16, CA 16, d16, [("spots", y16)], y16, rfl, o2 _ _ a16, N.x16, N.f16, o2 _ _ c16, rfl, ?_⟩
      refine ⟨_, rfl, l, _, 17, .ref e17, rfl, rfl, SqL.of (o2 _ _ hl), atI_nat (j := 17) rfl, e17, CA 17, d17, [("many", y17)], y17, rfl, o2 _ _ a17, N.x17, N.f17, o2 _ _ c17, rfl, ?_⟩
      refine ⟨by show 3 ≤ sizeLine; decide, fun l3 m3 => ?_⟩
      have b3 := same_upd (o := .lst [y15, y16, y17]) m3
      have k3 := Same.trans o2 b3
      refine ⟨x2, l3, _, _, rfl, rfl, b3 _ _ upd_same, upd_same, by show 18 ≤ sizeLine; decide, fun x3 g3 => ?_⟩
      have j3 := same_upd (o := .lst ([.ref t0, y1, y2, y3, y4] ++ [.ref t5, y6, y7, y8, y9] ++ [y10, y11, y12, .ref t13, y14] ++ [y15, y16, y17])) g3
      have o3 := Same.trans k3 j3
      have tt9 := j3
      have tt8 := Same.trans b3 tt9
      have tt7 := Same.trans j2 tt8
      have tt6 := Same.trans b2 tt7
      have tt5 := Same.trans s13 tt6
      have tt4 := Same.trans j1 tt5
      have tt3 := Same.trans b1 tt4
      have tt2 := Same.trans s5 tt3
      have tt1 := Same.trans b0 tt2
      have tt0 := Same.trans s0 tt1
      exact q _ _ o3 (.lst (SqL.of upd_same) (.cons (.tup (SqT.of (tt1 _ _ upd_same)) (.cons (dp_same o3 p0) (.cons (dp_same o3 v0) .nil))) (.cons (dp_same o3 p1) (.cons (dp_same o3 p2) (.cons (dp_same o3 p3) (.cons (dp_same o3 p4) (.cons (.tup (SqT.of (tt3 _ _ upd_same)) (.cons (dp_same o3 p5) (.cons (dp_same o3 v5) .nil))) (.cons (dp_same o3 p6) (.cons (dp_same o3 p7) (.cons (dp_same o3 p8) (.cons (dp_same o3 p9) (.cons (dp_same o3 p10) (.cons (dp_same o3 p11) (.cons (dp_same o3 p12) (.cons (.tup (SqT.of (tt6 _ _ upd_same)) (.cons (dp_same o3 p13) (.cons (dp_same o3 v13) .nil))) (.cons (dp_same o3 p14) (.cons (dp_same o3 p15) (.cons (dp_same o3 p16) (.cons (dp_same o3 p17) .nil)))))))))))))))))))
end
abbrev s__law_own : Stmt := top 28
abbrev N__law_own : List Str := ["_law_one", "_law_found", "_law_k", "_law_is_one"]
abbrev P__law_own : List Str := ["_law_one"]
theorem sc__law_own : FnScope N__law_own P__law_own (defScope s__law_own) := ⟨rfl, rfl, rfl, by decide +kernel, rfl, by decide +kernel, by decide +kernel⟩
structure Cn (mg : Str → Option Value) (CA : Nat → Addr) : Prop where
  m0 : mg "BadGrammar" = some (.ref (CA 0))
  m1 : mg "BadRow" = some (.ref (CA 1))
  m2 : mg "BadText" = some (.ref (CA 2))
  m3 : mg "NoTree" = some (.ref (CA 3))
  m4 : mg "NoGiven" = some (.ref (CA 4))
  m5 : mg "NotLet" = some (.ref (CA 5))
  m6 : mg "NoCap" = some (.ref (CA 6))
  m7 : mg "NoName" = some (.ref (CA 7))
  m8 : mg "NoOp" = some (.ref (CA 8))
  m9 : mg "NoRow" = some (.ref (CA 9))
  m10 : mg "NoSpot" = some (.ref (CA 10))
  m11 : mg "NoNode" = some (.ref (CA 11))
  m12 : mg "Ring" = some (.ref (CA 12))
  m13 : mg "Ringed" = some (.ref (CA 13))
  m14 : mg "Clash" = some (.ref (CA 14))
  m15 : mg "Taken" = some (.ref (CA 15))
  m16 : mg "Lacks" = some (.ref (CA 16))
  m17 : mg "TooMuch" = some (.ref (CA 17))
theorem ifT {c : Bool} {A B : Prop} (h : c = true) (x : A) : if c = true then A else B := by rw [if_pos h]; exact x
theorem ifF {c : Bool} {A B : Prop} (h : c = false) (x : B) : if c = true then A else B := by rw [if_neg (by rw [h]; decide)]; exact x
theorem Same.at_ {H0 H : Hp} {p : Addr} {o : HO} (s : Same H0 H) (n : H0 p = none) : Same H0 (upd H p o) := fun b x e => by
  rw [upd_ne (ne_of_none e n)]
  exact s b x e
structure Lt (mg : Str → Option Value) : Prop where
  isinstance : mg "isinstance" = none
  enumerate : mg "enumerate" = none
def spOwn18 (K : PySem.W.Frag) (CA : Nat → Addr) : Sp := fun vs H Q _ => ∃ (e : Addr) (i : Nat) (fs : List (Str × V)), vs = [.ref e] ∧ ErAt H e (CA i) fs ∧ i < 18 ∧ XvC K (CA i) ∧ (∀ k, k < 18 → PySem.W.kitOne K (.ref (CA i)) (.ref (CA k)) = some (decide (i = k))) ∧
  ∀ (H' : Hp) (l : Addr), Same H H' → H l = none → H' l = some (.lst [.int i]) → Q (.ref l) H'
section
variable {P : Program} {w : World} {K : PySem.W.Frag} {mg : Str → Option Value} {base : Heap} {CA : Nat → Addr}
theorem ok_own18 (T : Lt mg) (N : Cn mg CA) (D : Dd K mg "_law_own" s__law_own P__law_own) : C8.Cal P w K mg base 1 "_law_own" (spOwn18 K CA) [] := by
  refine D.cal sc__law_own (fun vs H Q E h => ?_) (fun f cdv A outer s H vs Q E hr h => ?_)
  · obtain ⟨e, i, fs, rfl, _⟩ := h
    rfl
  · obtain ⟨e, i, fs, rfl, ⟨d, hea, hed⟩, hi, hx, kk, q⟩ := h
    refine ⟨_, (pss_cons (ps_set (i := 1) sc__law_own.nd rfl (Or.inl rfl) (pe_lst (pa_cons (pe_callB call_isXv (by rfl) T.isinstance (by decide +kernel) (pa_cons (pv 0) (pa_cons (pe_glob (v := .ref (CA 0)) rfl N.m0 rfl) pa_nil))) (pa_cons (pe_callB call_isXv (by rfl) T.isinstance (by decide +kernel) (pa_cons (pv 0) (pa_cons (pe_glob (v := .ref (CA 1)) rfl N.m1 rfl) pa_nil))) (pa_cons (pe_callB call_isXv (by rfl) T.isinstance (by decide +kernel) (pa_cons (pv 0) (pa_cons (pe_glob (v := .ref (CA 2)) rfl N.m2 rfl) pa_nil))) (pa_cons (pe_callB call_isXv (by rfl) T.isinstance (by decide +kernel) (pa_cons (pv 0) (pa_cons (pe_glob (v := .ref (CA 3)) rfl N.m3 rfl) pa_nil))) pa_nil))))))
        (pss_cons (ps_set (i := 1) sc__law_own.nd rfl (Or.inl rfl) (pe_op op_cat (pv 1) (pe_lst (pa_cons (pe_callB call_isXv (by rfl) T.isinstance (by decide +kernel) (pa_cons (pv 0) (pa_cons (pe_glob (v := .ref (CA 4)) rfl N.m4 rfl) pa_nil))) (pa_cons (pe_callB call_isXv (by rfl) T.isinstance (by decide +kernel) (pa_cons (pv 0) (pa_cons (pe_glob (v := .ref (CA 5)) rfl N.m5 rfl) pa_nil))) (pa_cons (pe_callB call_isXv (by rfl) T.isinstance (by decide +kernel) (pa_cons (pv 0) (pa_cons (pe_glob (v := .ref (CA 6)) rfl N.m6 rfl) pa_nil))) pa_nil))))))
        (pss_cons (ps_set (i := 1) sc__law_own.nd rfl (Or.inl rfl) (pe_op op_cat (pv 1) (pe_lst (pa_cons (pe_callB call_isXv (by rfl) T.isinstance (by decide +kernel) (pa_cons (pv 0) (pa_cons (pe_glob (v := .ref (CA 7)) rfl N.m7 rfl) pa_nil))) (pa_cons (pe_callB call_isXv (by rfl) T.isinstance (by decide +kernel) (pa_cons (pv 0) (pa_cons (pe_glob (v := .ref (CA 8)) rfl N.m8 rfl) pa_nil))) (pa_cons (pe_callB call_isXv (by rfl) T.isinstance (by decide +kernel) (pa_cons (pv 0) (pa_cons (pe_glob (v := .ref (CA 9)) rfl N.m9 rfl) pa_nil))) (pa_cons (pe_callB call_isXv (by rfl) T.isinstance (by decide +kernel) (pa_cons (pv 0) (pa_cons (pe_glob (v := .ref (CA 10)) rfl N.m10 rfl) pa_nil))) pa_nil)))))))
        (pss_cons (ps_set (i := 1) sc__law_own.nd rfl (Or.inl rfl) (pe_op op_cat (pv 1) (pe_lst (pa_cons (pe_callB call_isXv (by rfl) T.isinstance (by decide +kernel) (pa_cons (pv 0) (pa_cons (pe_glob (v := .ref (CA 11)) rfl N.m11 rfl) pa_nil))) (pa_cons (pe_callB call_isXv (by rfl) T.isinstance (by decide +kernel) (pa_cons (pv 0) (pa_cons (pe_glob (v := .ref (CA 12)) rfl N.m12 rfl) pa_nil))) (pa_cons (pe_callB call_isXv (by rfl) T.isinstance (by decide +kernel) (pa_cons (pv 0) (pa_cons (pe_glob (v := .ref (CA 13)) rfl N.m13 rfl) pa_nil))) (pa_cons (pe_callB call_isXv (by rfl) T.isinstance (by decide +kernel) (pa_cons (pv 0) (pa_cons (pe_glob (v := .ref (CA 14)) rfl N.m14 rfl) pa_nil))) pa_nil)))))))
        (pss_cons (ps_set (i := 1) sc__law_own.nd rfl (Or.inl rfl) (pe_op op_cat (pv 1) (pe_lst (pa_cons (pe_callB call_isXv (by rfl) T.isinstance (by decide +kernel) (pa_cons (pv 0) (pa_cons (pe_glob (v := .ref (CA 15)) rfl N.m15 rfl) pa_nil))) (pa_cons (pe_callB call_isXv (by rfl) T.isinstance (by decide +kernel) (pa_cons (pv 0) (pa_cons (pe_glob (v := .ref (CA 16)) rfl N.m16 rfl) pa_nil))) (pa_cons (pe_callB call_isXv (by rfl) T.isinstance (by decide +kernel) (pa_cons (pv 0) (pa_cons (pe_glob (v := .ref (CA 17)) rfl N.m17 rfl) pa_nil))) pa_nil))))))
        (pss_one (ps_ret (pe_lc (g := gTup K 2 (gCons (gName 2) (gCons (gName 3) gNil))) (own := [("_law_k", 2), ("_law_is_one", 3)]) (by exact rfl) sc__law_own.nd (pi_enum (by rfl) T.enumerate (pa_cons (pv 1) pa_nil)) (blkOk_by (own := [("_law_k", 2), ("_law_is_one", 3)]) (N := N__law_own) (sc := defScope s__law_own) (by decide +kernel)) (fun _ _ _ _ _ => (pg_tup (n := 2) rfl (pgs_cons (pg_name (i := 2) sc__law_own.nd rfl (Or.inl rfl) (Or.inr rfl)) (pgs_cons (pg_name (i := 3) sc__law_own.nd rfl (Or.inl rfl) (Or.inr rfl)) pgs_nil)))) (fun _ _ _ _ _ => (pts_one (pt_val (pv 3)))) (fun _ _ _ _ _ => (pv 2)))))))))), ?_⟩
    have z0 : Same H H := Same.refl H
    refine ⟨_, rfl, e, CA i, d, fs, _, _, _, rfl, z0 _ _ hea, hx, z0 _ _ hed, .own (CA 0), kk 0 (by decide), ?_⟩
    refine ⟨_, rfl, e, CA i, d, fs, _, _, _, rfl, z0 _ _ hea, hx, z0 _ _ hed, .own (CA 1), kk 1 (by decide), ?_⟩
    refine ⟨_, rfl, e, CA i, d, fs, _, _, _, rfl, z0 _ _ hea, hx, z0 _ _ hed, .own (CA 2), kk 2 (by decide), ?_⟩
    refine ⟨_, rfl, e, CA i, d, fs, _, _, _, rfl, z0 _ _ hea, hx, z0 _ _ hed, .own (CA 3), kk 3 (by decide), ?_⟩
    refine ⟨by show 4 ≤ sizeLine; decide, fun l0 m0 => ?_⟩
    have b0 := same_upd (o := .lst [.bl (decide (i = 0)), .bl (decide (i = 1)), .bl (decide (i = 2)), .bl (decide (i = 3))]) m0
    have k0 := Same.trans z0 b0
    refine ⟨_, rfl, ?_⟩
    refine ⟨_, rfl, e, CA i, d, fs, _, _, _, rfl, k0 _ _ hea, hx, k0 _ _ hed, .own (CA 4), kk 4 (by decide), ?_⟩
    refine ⟨_, rfl, e, CA i, d, fs, _, _, _, rfl, k0 _ _ hea, hx, k0 _ _ hed, .own (CA 5), kk 5 (by decide), ?_⟩
    refine ⟨_, rfl, e, CA i, d, fs, _, _, _, rfl, k0 _ _ hea, hx, k0 _ _ hed, .own (CA 6), kk 6 (by decide), ?_⟩
    refine ⟨by show 3 ≤ sizeLine; decide, fun l1 m1 => ?_⟩
    have b1 := same_upd (o := .lst [.bl (decide (i = 4)), .bl (decide (i = 5)), .bl (decide (i = 6))]) m1
    have k1 := Same.trans k0 b1
    refine ⟨l0, l1, _, _, rfl, rfl, b1 _ _ upd_same, upd_same, by show 7 ≤ sizeLine; decide, fun x1 g1 => ?_⟩
    have j1 := same_upd (o := .lst ([.bl (decide (i = 0)), .bl (decide (i = 1)), .bl (decide (i = 2)), .bl (decide (i = 3))] ++ [.bl (decide (i = 4)), .bl (decide (i = 5)), .bl (decide (i = 6))])) g1
    have o1 := Same.trans k1 j1
    refine ⟨_, rfl, ?_⟩
    refine ⟨_, rfl, e, CA i, d, fs, _, _, _, rfl, o1 _ _ hea, hx, o1 _ _ hed, .own (CA 7), kk 7 (by decide), ?_⟩
    refine ⟨_, rfl, e, CA i, d, fs, _, _, _, rfl, o1 _ _ hea, hx, o1 _ _ hed, .own (CA 8), kk 8 (by decide), ?_⟩
    refine ⟨_, rfl, e, CA i, d, fs, _, _, _, rfl, o1 _ _ hea, hx, o1 _ _ hed, .own (CA 9), kk 9 (by decide), ?_⟩
    refine ⟨_, rfl, e, CA i, d, fs, _, _, _, rfl, o1 _ _ hea, hx, o1 _ _ hed, .own (CA 10), kk 10 (by decide), ?_⟩
    refine ⟨by show 4 ≤ sizeLine; decide, fun l2 m2 => ?_⟩
    have b2 := same_upd (o := .lst [.bl (decide (i = 7)), .bl (decide (i = 8)), .bl (decide (i = 9)), .bl (decide (i = 10))]) m2
    have k2 := Same.trans o1 b2
    refine ⟨x1, l2, _, _, rfl, rfl, b2 _ _ upd_same, upd_same, by show 11 ≤ sizeLine; decide, fun x2 g2 => ?_⟩
    have j2 := same_upd (o := .lst ([.bl (decide (i = 0)), .bl (decide (i = 1)), .bl (decide (i = 2)), .bl (decide (i = 3))] ++ [.bl (decide (i = 4)), .bl (decide (i = 5)), .bl (decide (i = 6))] ++ [.bl (decide (i = 7)), .bl (decide (i = 8)), .bl (decide (i = 9)), .bl (decide (i = 10))])) g2
    have o2 := Same.trans k2 j2
    refine ⟨_, rfl, ?_⟩
    refine ⟨_, rfl, e, CA i, d, fs, _, _, _, rfl, o2 _ _ hea, hx, o2 _ _ hed, .own (CA 11), kk 11 (by decide), ?_⟩
    refine ⟨_, rfl, e, CA i, d, fs, _, _, _, rfl, o2 _ _ hea, hx, o2 _ _ hed, .own (CA 12), kk 12 (by decide), ?_⟩
    refine ⟨_, rfl, e, CA i, d, fs, _, _, _, rfl, o2 _ _ hea, hx, o2 _ _ hed, .own (CA 13), kk 13 (by decide), ?_⟩
    refine ⟨_, rfl, e, CA i, d, fs, _, _, _, rfl, o2 _ _ hea, hx, o2 _ _ hed, .own (CA 14), kk 14 (by decide), ?_⟩
    refine ⟨by show 4 ≤ sizeLine; decide, fun l3 m3 => ?_⟩
    have b3 := same_upd (o := .lst [.bl (decide (i = 11)), .bl (decide (i = 12)), .bl (decide (i = 13)), .bl (decide (i = 14))]) m3
    have k3 := Same.trans o2 b3
    refine ⟨x2, l3, _, _, rfl, rfl, b3 _ _ upd_same, upd_same, by show 15 ≤ sizeLine; decide, fun x3 g3 => ?_⟩
    have j3 := same_upd (o := .lst ([.bl (decide (i = 0)), .bl (decide (i = 1)), .bl (decide (i = 2)), .bl (decide (i = 3))] ++ [.bl (decide (i = 4)), .bl (decide (i = 5)), .bl (decide (i = 6))] ++ [.bl (decide (i = 7)), .bl (decide (i = 8)), .bl (decide (i = 9)), .bl (decide (i = 10))] ++ [.bl (decide (i = 11)), .bl (decide (i = 12)), .bl (decide (i = 13)), .bl (decide (i = 14))])) g3
    have o3 := Same.trans k3 j3
    refine ⟨_, rfl, ?_⟩
    refine ⟨_, rfl, e, CA i, d, fs, _, _, _, rfl, o3 _ _ hea, hx, o3 _ _ hed, .own (CA 15), kk 15 (by decide), ?_⟩
    refine ⟨_, rfl, e, CA i, d, fs, _, _, _, rfl, o3 _ _ hea, hx, o3 _ _ hed, .own (CA 16), kk 16 (by decide), ?_⟩
    refine ⟨_, rfl, e, CA i, d, fs, _, _, _, rfl, o3 _ _ hea, hx, o3 _ _ hed, .own (CA 17), kk 17 (by decide), ?_⟩
    refine ⟨by show 3 ≤ sizeLine; decide, fun l4 m4 => ?_⟩
    have b4 := same_upd (o := .lst [.bl (decide (i = 15)), .bl (decide (i = 16)), .bl (decide (i = 17))]) m4
    have k4 := Same.trans o3 b4
    refine ⟨x3, l4, _, _, rfl, rfl, b4 _ _ upd_same, upd_same, by show 18 ≤ sizeLine; decide, fun x4 g4 => ?_⟩
    have j4 := same_upd (o := .lst ([.bl (decide (i = 0)), .bl (decide (i = 1)), .bl (decide (i = 2)), .bl (decide (i = 3))] ++ [.bl (decide (i = 4)), .bl (decide (i = 5)), .bl (decide (i = 6))] ++ [.bl (decide (i = 7)), .bl (decide (i = 8)), .bl (decide (i = 9)), .bl (decide (i = 10))] ++ [.bl (decide (i = 11)), .bl (decide (i = 12)), .bl (decide (i = 13)), .bl (decide (i = 14))] ++ [.bl (decide (i = 15)), .bl (decide (i = 16)), .bl (decide (i = 17))])) g4
    have o4 := Same.trans k4 j4
    refine ⟨_, rfl, x4, _, rfl, SqL.of upd_same, fun D nD => ?_⟩
    refine lc_it (walk_enum (K := K) (a := x4)) (fun j H' => Same H H' ∧ SqL K H' x4 [.bl (decide (i = 0)), .bl (decide (i = 1)), .bl (decide (i = 2)), .bl (decide (i = 3)), .bl (decide (i = 4)), .bl (decide (i = 5)), .bl (decide (i = 6)), .bl (decide (i = 7)), .bl (decide (i = 8)), .bl (decide (i = 9)), .bl (decide (i = 10)), .bl (decide (i = 11)), .bl (decide (i = 12)), .bl (decide (i = 13)), .bl (decide (i = 14)), .bl (decide (i = 15)), .bl (decide (i = 16)), .bl (decide (i = 17))] ∧ H' D = some (.lst (if j ≤ i then [] else [.int i])))
      ⟨Same.trans o4 (same_upd nD), Same.seqL (same_upd nD) (SqL.of upd_same), by rw [if_pos (Nat.zero_le i)]; exact upd_same⟩ (fun j H' _ h => h.2.1) ?_ ?_
    · rintro j v H3 H4 hj ⟨sm, hq, hD⟩ ⟨U, x, y, rfl, nU, rfl, ex, ey⟩
      cases ex
      have hj : j < 18 := hj
      have ey2 : ((List.range 18).map fun k => V.bl (decide (i = k)))[j]? = some y := ey
      rw [List.getElem?_map, List.getElem?_range hj] at ey2
      cases ey2
      have nDU : D ≠ U := ne_of_none hD nU
      have sU : Same H3 (upd H3 U (.tup [.int j, .bl (decide (i = j))])) := same_upd nU
      refine ⟨U, _, rfl, SqT.of upd_same, rfl, _, _, rfl, _, _, rfl, rfl, ?_⟩
      refine ⟨rfl, _, rfl, _, rfl, ?_⟩
      have nH : H D = none := o4.free nD
      by_cases e : i = j
      · subst e
        rw [if_pos (Nat.le_refl i)] at hD
        refine ifT (decide_eq_true rfl) ⟨_, rfl, _, sU _ _ hD, by decide, Same.at_ (sm.trans sU) nH, ?_, ?_⟩
        · have nx : x4 ≠ D := fun z => by
            rw [← z, upd_same] at nD
            cases nD
          exact But.seq (But.upd (But.of sU)) nx hq
        · rw [if_neg (by omega), upd_same]
          rfl
      · refine ifF (decide_eq_false e) ⟨sm.trans sU, Same.seqL sU hq, ?_⟩
        rw [sU _ _ hD]
        by_cases e2 : j ≤ i
        · rw [if_pos e2, if_pos (by omega)]
        · rw [if_neg e2, if_neg (by omega)]
    · rintro H3 ⟨sm, hq, hD⟩
      have hD : H3 D = some (.lst (if 18 ≤ i then [] else [.int i])) := hD
      rw [if_neg (by omega)] at hD
      exact q _ _ sm (o4.free nD) hD
end
abbrev s__law_over : Stmt := top 29
abbrev N__law_over : List Str := ["_law_one", "_law_words", "_law_found", "_law_word", "_law_is_one"]
abbrev P__law_over : List Str := ["_law_one"]
theorem sc__law_over : FnScope N__law_over P__law_over (defScope s__law_over) := ⟨rfl, rfl, rfl, by decide +kernel, rfl, by decide +kernel, by decide +kernel⟩
structure Ot7 (mg : Str → Option Value) : Prop where
  isinstance : mg "isinstance" = none
  zip : mg "zip" = none
  t0 : mg "ValueError" = none
  t1 : mg "KeyError" = none
  t2 : mg "LookupError" = none
  t3 : mg "IndexError" = none
  t4 : mg "RuntimeError" = none
  t5 : mg "ArithmeticError" = none
  t6 : mg "OverflowError" = none
def wd : Nat → Str
  | 0 => "value"
  | 1 => "key"
  | 2 => "lookup"
  | 3 => "index"
  | 4 => "runtime"
  | 5 => "sums"
  | 6 => "over"
  | _ => ""
def ty7 : Nat → Str
  | 0 => "ValueError"
  | 1 => "KeyError"
  | 2 => "LookupError"
  | 3 => "IndexError"
  | 4 => "RuntimeError"
  | 5 => "ArithmeticError"
  | 6 => "OverflowError"
  | _ => ""
def picked (b : Nat → Bool) (j : Nat) : List V := ((List.range j).filter b).map fun k => V.str (wd k)
theorem picked_succ (b : Nat → Bool) (j : Nat) : picked b (j + 1) = picked b j ++ if b j = true then [V.str (wd j)] else [] := by
  unfold picked
  rw [List.range_succ, List.filter_append, List.map_append]
  by_cases h : b j = true
  · rw [if_pos h, List.filter_cons_of_pos h]
    rfl
  · rw [if_neg h, List.filter_cons_of_neg h]
    rfl
theorem picked_len (b : Nat → Bool) (j : Nat) : (picked b j).length ≤ j := by
  unfold picked
  rw [List.length_map]
  exact Nat.le_trans (List.length_filter_le _ _) (by rw [List.length_range]; exact Nat.le_refl _)
def spOver7 (K : PySem.W.Frag) : Sp := fun vs H Q _ => ∃ (e C : Addr) (b : Nat → Bool) (fs : List (Str × V)), vs = [.ref e] ∧ ErAt H e C fs ∧ XvC K C ∧ (PySem.W.kitOne K (.ref C) (.type "ValueError") = some (b 0) ∧ PySem.W.kitOne K (.ref C) (.type "KeyError") = some (b 1) ∧ PySem.W.kitOne K (.ref C) (.type "LookupError") = some (b 2) ∧ PySem.W.kitOne K (.ref C) (.type "IndexError") = some (b 3) ∧ PySem.W.kitOne K (.ref C) (.type "RuntimeError") = some (b 4) ∧ PySem.W.kitOne K (.ref C) (.type "ArithmeticError") = some (b 5) ∧ PySem.W.kitOne K (.ref C) (.type "OverflowError") = some (b 6)) ∧
  ∀ (H' : Hp) (l : Addr), Same H H' → H l = none → H' l = some (.lst (picked b 7)) → Q (.ref l) H'
section
variable {P : Program} {w : World} {K : PySem.W.Frag} {mg : Str → Option Value} {base : Heap} {CA : Nat → Addr}
theorem ok_over7 (T : Ot7 mg) (D : Dd K mg "_law_over" s__law_over P__law_over) : C8.Cal P w K mg base 1 "_law_over" (spOver7 K) [] := by
  refine D.cal sc__law_over (fun vs H Q E h => ?_) (fun f cdv A outer s H vs Q E hr h => ?_)
  · obtain ⟨e, C, b, fs, rfl, _⟩ := h
    rfl
  · obtain ⟨e, C, b, fs, rfl, ⟨d, hea, hed⟩, hx, ⟨q0, q1, q2, q3, q4, q5, q6⟩, q⟩ := h
    refine ⟨_, (pss_cons (ps_set (i := 1) sc__law_over.nd rfl (Or.inl rfl) (pe_lst (pa_cons pe_str (pa_cons pe_str (pa_cons pe_str (pa_cons pe_str (pa_cons pe_str (pa_cons pe_str (pa_cons pe_str pa_nil)))))))))
        (pss_cons (ps_set (i := 2) sc__law_over.nd rfl (Or.inl rfl) (pe_lst (pa_cons (pe_callB call_isXv (by rfl) T.isinstance (by decide +kernel) (pa_cons (pv 0) (pa_cons (pe_bltn (v := .ty "ValueError") rfl T.t0 (by decide +kernel) rfl) pa_nil))) (pa_cons (pe_callB call_isXv (by rfl) T.isinstance (by decide +kernel) (pa_cons (pv 0) (pa_cons (pe_bltn (v := .ty "KeyError") rfl T.t1 (by decide +kernel) rfl) pa_nil))) (pa_cons (pe_callB call_isXv (by rfl) T.isinstance (by decide +kernel) (pa_cons (pv 0) (pa_cons (pe_bltn (v := .ty "LookupError") rfl T.t2 (by decide +kernel) rfl) pa_nil))) pa_nil)))))
        (pss_cons (ps_set (i := 2) sc__law_over.nd rfl (Or.inl rfl) (pe_op op_cat (pv 2) (pe_lst (pa_cons (pe_callB call_isXv (by rfl) T.isinstance (by decide +kernel) (pa_cons (pv 0) (pa_cons (pe_bltn (v := .ty "IndexError") rfl T.t3 (by decide +kernel) rfl) pa_nil))) (pa_cons (pe_callB call_isXv (by rfl) T.isinstance (by decide +kernel) (pa_cons (pv 0) (pa_cons (pe_bltn (v := .ty "RuntimeError") rfl T.t4 (by decide +kernel) rfl) pa_nil))) (pa_cons (pe_callB call_isXv (by rfl) T.isinstance (by decide +kernel) (pa_cons (pv 0) (pa_cons (pe_bltn (v := .ty "ArithmeticError") rfl T.t5 (by decide +kernel) rfl) pa_nil))) pa_nil))))))
        (pss_cons (ps_expr (pe_bm PySem.F.plainAttrs_list PySem.F.slot_list_append PySem.F.type_list_append mt_append (pv 2) (pa_cons (pe_callB call_isXv (by rfl) T.isinstance (by decide +kernel) (pa_cons (pv 0) (pa_cons (pe_bltn (v := .ty "OverflowError") rfl T.t6 (by decide +kernel) rfl) pa_nil))) pa_nil)))
        (pss_one (ps_ret (pe_lc (g := gTup K 2 (gCons (gName 3) (gCons (gName 4) gNil))) (own := [("_law_word", 3), ("_law_is_one", 4)]) (by exact rfl) sc__law_over.nd (pi_zip (by rfl) T.zip (pa_cons (pv 1) (pa_cons (pv 2) pa_nil))) (blkOk_by (own := [("_law_word", 3), ("_law_is_one", 4)]) (N := N__law_over) (sc := defScope s__law_over) (by decide +kernel)) (fun _ _ _ _ _ => (pg_tup (n := 2) rfl (pgs_cons (pg_name (i := 3) sc__law_over.nd rfl (Or.inl rfl) (Or.inr rfl)) (pgs_cons (pg_name (i := 4) sc__law_over.nd rfl (Or.inl rfl) (Or.inr rfl)) pgs_nil)))) (fun _ _ _ _ _ => (pts_one (pt_val (pv 4)))) (fun _ _ _ _ _ => (pv 3))))))))), ?_⟩
    refine ⟨by show 7 ≤ sizeLine; decide, fun lw mw => ?_⟩
    have z0 : Same H (upd H lw (.lst [.str "value", .str "key", .str "lookup", .str "index", .str "runtime", .str "sums", .str "over"])) := same_upd mw
    refine ⟨_, rfl, e, C, d, fs, _, _, _, rfl, z0 _ _ hea, hx, z0 _ _ hed, .ty "ValueError", q0, ?_⟩
    refine ⟨_, rfl, e, C, d, fs, _, _, _, rfl, z0 _ _ hea, hx, z0 _ _ hed, .ty "KeyError", q1, ?_⟩
    refine ⟨_, rfl, e, C, d, fs, _, _, _, rfl, z0 _ _ hea, hx, z0 _ _ hed, .ty "LookupError", q2, ?_⟩
    refine ⟨by show 3 ≤ sizeLine; decide, fun l0 m0 => ?_⟩
    have b0 := same_upd (o := .lst [.bl (b 0), .bl (b 1), .bl (b 2)]) m0
    have k0 := Same.trans z0 b0
    refine ⟨_, rfl, ?_⟩
    refine ⟨_, rfl, e, C, d, fs, _, _, _, rfl, k0 _ _ hea, hx, k0 _ _ hed, .ty "IndexError", q3, ?_⟩
    refine ⟨_, rfl, e, C, d, fs, _, _, _, rfl, k0 _ _ hea, hx, k0 _ _ hed, .ty "RuntimeError", q4, ?_⟩
    refine ⟨_, rfl, e, C, d, fs, _, _, _, rfl, k0 _ _ hea, hx, k0 _ _ hed, .ty "ArithmeticError", q5, ?_⟩
    refine ⟨by show 3 ≤ sizeLine; decide, fun l1 m1 => ?_⟩
    have b1 := same_upd (o := .lst [.bl (b 3), .bl (b 4), .bl (b 5)]) m1
    have k1 := Same.trans k0 b1
    refine ⟨l0, l1, _, _, rfl, rfl, b1 _ _ upd_same, upd_same, by show 6 ≤ sizeLine; decide, fun x1 g1 => ?_⟩
    have j1 := same_upd (o := .lst ([.bl (b 0), .bl (b 1), .bl (b 2)] ++ [.bl (b 3), .bl (b 4), .bl (b 5)])) g1
    have o1 := Same.trans k1 j1
    refine ⟨_, rfl, .inl ⟨rfl, _, SqL.of upd_same⟩, _, rfl, e, C, d, fs, _, _, _, rfl, o1 _ _ hea, hx, o1 _ _ hed, .ty "OverflowError", q6, ?_⟩
    refine ⟨x1, _, .bl (b 6), rfl, rfl, upd_same, by show 6 < sizeLine; decide, ?_⟩
    have nx1 : H x1 = none := k1.free g1
    have nlw : lw ≠ x1 := ne_of_none (b1 _ _ (b0 _ _ upd_same)) g1
    have fin : Same H (upd (upd _ x1 (.lst ([.bl (b 0), .bl (b 1), .bl (b 2)] ++ [.bl (b 3), .bl (b 4), .bl (b 5)]))) x1 (.lst ([.bl (b 0), .bl (b 1), .bl (b 2)] ++ [.bl (b 3), .bl (b 4), .bl (b 5)] ++ [.bl (b 6)]))) := Same.at_ o1 nx1
    have hlw := j1 _ _ (b1 _ _ (b0 _ _ (upd_same (H := H) (a := lw) (o := .lst [.str "value", .str "key", .str "lookup", .str "index", .str "runtime", .str "sums", .str "over"]))))
    refine ⟨_, rfl, _, rfl, lw, x1, _, _, rfl, SqL.of (by rw [upd_ne nlw]; exact hlw), SqL.of upd_same, fun D nD => ?_⟩
    refine lc_it (walk_zip (K := K) (a := lw) (b := x1) (n := 7) rfl) (fun j H' => Same H H' ∧ SqL K H' lw [.str "value", .str "key", .str "lookup", .str "index", .str "runtime", .str "sums", .str "over"] ∧ SqL K H' x1 [.bl (b 0), .bl (b 1), .bl (b 2), .bl (b 3), .bl (b 4), .bl (b 5), .bl (b 6)] ∧ H' D = some (.lst (picked b j)))
      ⟨Same.trans fin (same_upd nD), Same.seqL (same_upd nD) (SqL.of (by rw [upd_ne nlw]; exact hlw)), Same.seqL (same_upd nD) (SqL.of upd_same), upd_same⟩ (fun j H' _ h => ⟨h.2.1, h.2.2.1⟩) ?_ ?_
    · rintro j v H3 H4 hj ⟨sm, hq1, hq2, hD⟩ ⟨U, x, y, rfl, nU, rfl, ex, ey⟩
      have hj : j < 7 := hj
      have ex2 : ((List.range 7).map fun k => V.str (wd k))[j]? = some x := ex
      rw [List.getElem?_map, List.getElem?_range hj] at ex2
      cases ex2
      have ey2 : ((List.range 7).map fun k => V.bl (b k))[j]? = some y := ey
      rw [List.getElem?_map, List.getElem?_range hj] at ey2
      cases ey2
      have nDU : D ≠ U := ne_of_none hD nU
      have sU : Same H3 (upd H3 U (.tup [.str (wd j), .bl (b j)])) := same_upd nU
      refine ⟨U, _, rfl, SqT.of upd_same, rfl, _, _, rfl, _, _, rfl, rfl, ?_⟩
      refine ⟨rfl, _, rfl, _, rfl, ?_⟩
      have nH : H D = none := fin.free nD
      by_cases e : b j = true
      · refine ifT e ⟨_, rfl, _, sU _ _ hD, Nat.lt_of_le_of_lt (picked_len b j) (small1000 (by omega)), Same.at_ (sm.trans sU) nH, ?_, ?_, ?_⟩
        · have nx : lw ≠ D := fun z => by
            rw [← z, upd_ne nlw, hlw] at nD
            cases nD
          exact But.seq (But.upd (But.of sU)) nx hq1
        · have nx : x1 ≠ D := fun z => by
            rw [← z, upd_same] at nD
            cases nD
          exact But.seq (But.upd (But.of sU)) nx hq2
        · rw [upd_same, picked_succ, if_pos e]
      · refine ifF (by simpa using e) ⟨sm.trans sU, Same.seqL sU hq1, Same.seqL sU hq2, ?_⟩
        rw [sU _ _ hD, picked_succ, if_neg e, List.append_nil]
    · rintro H3 ⟨sm, hq1, hq2, hD⟩
      exact q _ _ sm (fin.free nD) hD
end
theorem yesT {σ : L2.St} {H : Hp} {A B : Hp → Prop} (h : A H) : tYes σ H (fun b H3 => if b = true then A H3 else B H3) := by
  show (if true = true then A H else B H)
  exact iteT h
theorem allTrue (n : Nat) : (List.replicate n true).all id = true := by
  rw [List.all_eq_true]
  intro x hx
  rw [List.eq_of_mem_replicate hx]
  rfl
abbrev s__law_same : Stmt := top 27
abbrev N__law_same : List Str := ["_law_found", "_law_due", "_law_one", "_law_other"]
abbrev P__law_same : List Str := ["_law_found", "_law_due"]
theorem sc__law_same : FnScope N__law_same P__law_same (defScope s__law_same) := ⟨rfl, rfl, rfl, by decide +kernel, rfl, by decide +kernel, by decide +kernel⟩
structure Sa (mg : Str → Option Value) : Prop where
  isinstance : mg "isinstance" = none
  list : mg "list" = none
  tuple : mg "tuple" = none
  bool : mg "bool" = none
  str : mg "str" = none
  int : mg "int" = none
  len : mg "len" = none
  zip : mg "zip" = none
  all : mg "all" = none
  range : mg "range" = none
theorem walk_zipT {K : PySem.W.Frag} {a b : Addr} {xs ys : List V} {n : Nat} (hn : n = min xs.length ys.length) : Walk (RZ.ItzT K a b) n (fun H => SqT K H a xs ∧ SqT K H b ys) (YPair (fun i => xs[i]?) (fun i => ys[i]?)) := by
  subst hn
  refine ⟨fun i _ hi q => ?_, fun _ q => ⟨xs, ys, q.1, q.2, by omega⟩, fun i H v H' _ q y => ?_⟩
  · have h1 : i < xs.length := by omega
    have h2 : i < ys.length := by omega
    exact ⟨xs, ys, xs[i], ys[i], q.1, q.2, by simp [h1], by simp [h2]⟩
  · obtain ⟨T, x, z, h1, h2, h3, h4, h5⟩ := y
    exact ⟨T, x, z, h1, h2, h3, h4 xs q.1, h5 ys q.2⟩
def spSame (K : PySem.W.Frag) (n : Nat) : Sp := fun vs H Q _ => ∃ (x y : V) (d : PyData), vs = [x, y] ∧ Dp K H x d ∧ Dp K H y d ∧ Sm n d ∧ ∀ H', Same H H' → Q (.bl true) H'
section
variable {P : Program} {w : World} {K : PySem.W.Frag} {mg : Str → Option Value} {base : Heap}
theorem same_non (T : Sa mg) (f : Addr) (cdv : Value) (A : Around) (outer : List Env) (s : Shared) (H : Hp) (Q : VK) (E : XK) (q : ∀ H', Same H H' → Q (.bl true) H') :
    ∃ t, PSs (cxOf CX0 P w K mg base N__law_same "_law_same" (defScope s__law_same) f cdv A outer s H E).nox (defBody s__law_same) t ∧ t { nx := fun _ H' => Q .non H', rt := Q } (start N__law_same [.non, .non]) H := by
  refine ⟨_, (pss_cons (ps_if (pt_val (pe_callB call_isiT (by rfl) T.isinstance (by decide +kernel) (pa_cons (pv 1) (pa_cons (pe_tup (pa_cons (pe_bltn (v := .ty "list") rfl T.list (by decide +kernel) rfl) (pa_cons (pe_bltn (v := .ty "tuple") rfl T.tuple (by decide +kernel) rfl) pa_nil))) pa_nil))))
      (pss_cons ps_never (pss_one ps_never)) pss_nil)
    (pss_cons (ps_if (PW.pt (pw_or (pt_cmpR op_isN (pv 1) pe_non (nomark _)) (pw_or1 (pt_cmpR op_isN (pv 0) pe_non (nomark _)))))
      (pss_one (ps_ret (pe_and (pe_cmpR op_isN (pv 1) pe_non (nomark _)) (pe_one (pe_cmpR op_isN (pv 0) pe_non (nomark _))))))
      pss_nil) (pss_cons ps_never (pss_one ps_never)))), ?_⟩
  refine ⟨_, rfl, by show 2 ≤ sizeLine; decide, fun tp nt => ?_⟩
  refine ⟨.non, tp, _, .type "NoneType", [.type "list", .type "tuple"], false, rfl, upd_same, .cons (.ty "list") (.cons (.ty "tuple") .nil), .base .non, kitLT (by decide +kernel) (fun _ => by decide +kernel), _, rfl, iteF ?_⟩
  refine ⟨_, rfl, rfl, _, rfl, ifT (decide_eq_true rfl) (iteT ?_)⟩
  refine ⟨_, rfl, rfl, _, rfl, ifT (decide_eq_true rfl) ?_⟩
  refine ⟨_, rfl, rfl, ?_⟩
  rw [decide_eq_true rfl]
  exact q _ (same_upd nt)
theorem same_atom (T : Sa mg) (f : Addr) (cdv : Value) (A : Around) (outer : List Env) (s : Shared) (H : Hp) (Q : VK) (E : XK) {x : V} {t : String} (ty : ∀ H', TyX K H' x (.type t)) (nx : x ≠ .non) (k1 : kitB t "list" = some false) (k2 : kitB t "tuple" = some false)
    (kk : (kitB t "bool" = some true) ∨ (kitB t "bool" = some false ∧ kitB t "str" = some true) ∨ (kitB t "bool" = some false ∧ kitB t "str" = some false ∧ kitB t "int" = some true)) (sc : scal x x = true) (q : ∀ H', Same H H' → Q (.bl true) H') :
    ∃ t, PSs (cxOf CX0 P w K mg base N__law_same "_law_same" (defScope s__law_same) f cdv A outer s H E).nox (defBody s__law_same) t ∧ t { nx := fun _ H' => Q .non H', rt := Q } (start N__law_same [x, x]) H := by
  refine ⟨_, (pss_cons (ps_if (pt_val (pe_callB call_isiT (by rfl) T.isinstance (by decide +kernel) (pa_cons (pv 1) (pa_cons (pe_tup (pa_cons (pe_bltn (v := .ty "list") rfl T.list (by decide +kernel) rfl) (pa_cons (pe_bltn (v := .ty "tuple") rfl T.tuple (by decide +kernel) rfl) pa_nil))) pa_nil))))
      (pss_cons ps_never (pss_one ps_never)) pss_nil)
    (pss_cons (ps_if (PW.pt (pw_or (pt_cmpR op_isN (pv 1) pe_non (nomark _)) (pw_or1 (pt_cmpR op_isN (pv 0) pe_non (nomark _)))))
      (pss_one ps_never) pss_nil)
    (pss_cons (ps_if (PW.pt (pw_or (pt_val (pe_callB call_isi (by rfl) T.isinstance (by decide +kernel) (pa_cons (pv 1) (pa_cons (pe_bltn (v := .ty "bool") rfl T.bool (by decide +kernel) rfl) pa_nil)))) (pw_or1 (pt_val (pe_callB call_isi (by rfl) T.isinstance (by decide +kernel) (pa_cons (pv 1) (pa_cons (pe_bltn (v := .ty "str") rfl T.str (by decide +kernel) rfl) pa_nil)))))))
      (pss_one (ps_ret (pe_and (pe_cmpR op_eq (pe_callB call_isi (by rfl) T.isinstance (by decide +kernel) (pa_cons (pv 0) (pa_cons (pe_bltn (v := .ty "bool") rfl T.bool (by decide +kernel) rfl) pa_nil))) (pe_callB call_isi (by rfl) T.isinstance (by decide +kernel) (pa_cons (pv 1) (pa_cons (pe_bltn (v := .ty "bool") rfl T.bool (by decide +kernel) rfl) pa_nil))) (nomark _)) (pe_one (pe_cmpR op_eq (pv 0) (pv 1) (nomark _))))))
      pss_nil)
    (pss_one (ps_ret (pe_and (pe_callB call_isi (by rfl) T.isinstance (by decide +kernel) (pa_cons (pv 0) (pa_cons (pe_bltn (v := .ty "int") rfl T.int (by decide +kernel) rfl) pa_nil))) (pe_and (pe_not (pe_callB call_isi (by rfl) T.isinstance (by decide +kernel) (pa_cons (pv 0) (pa_cons (pe_bltn (v := .ty "bool") rfl T.bool (by decide +kernel) rfl) pa_nil)))) (pe_one (pe_cmpR op_eq (pv 0) (pv 1) (nomark _)))))))))), ?_⟩
  refine ⟨_, rfl, by show 2 ≤ sizeLine; decide, fun tp nt => ?_⟩
  refine ⟨x, tp, _, .type t, [.type "list", .type "tuple"], false, rfl, upd_same, .cons (.ty "list") (.cons (.ty "tuple") .nil), ty _, kitLT k1 (fun _ => k2), _, rfl, iteF ?_⟩
  refine ⟨_, rfl, rfl, _, rfl, ifF (decide_eq_false nx) ?_⟩
  refine ⟨_, rfl, rfl, _, rfl, ifF (decide_eq_false nx) ?_⟩
  rcases kk with kb | ⟨kb, ks⟩ | ⟨kb, ks, ki⟩
  · refine ⟨_, rfl, x, .ty "bool", .type t, .type "bool", true, rfl, .ty "bool", ty _, kit_ty kb, _, rfl, iteT (iteT ?_)⟩
    refine ⟨_, rfl, x, .ty "bool", .type t, .type "bool", true, rfl, .ty "bool", ty _, kit_ty kb, ?_⟩
    refine ⟨_, rfl, x, .ty "bool", .type t, .type "bool", true, rfl, .ty "bool", ty _, kit_ty kb, ?_⟩
    refine ⟨rfl, _, rfl, ifT (decide_eq_true rfl) ?_⟩
    refine ⟨_, rfl, _, rfl, sc, ?_⟩
    rw [decide_eq_true rfl]
    exact q _ (same_upd nt)
  · refine ⟨_, rfl, x, .ty "bool", .type t, .type "bool", false, rfl, .ty "bool", ty _, kit_ty kb, _, rfl, iteF ?_⟩
    refine ⟨_, rfl, x, .ty "str", .type t, .type "str", true, rfl, .ty "str", ty _, kit_ty ks, _, rfl, iteT ?_⟩
    refine ⟨_, rfl, x, .ty "bool", .type t, .type "bool", false, rfl, .ty "bool", ty _, kit_ty kb, ?_⟩
    refine ⟨_, rfl, x, .ty "bool", .type t, .type "bool", false, rfl, .ty "bool", ty _, kit_ty kb, ?_⟩
    refine ⟨rfl, _, rfl, ifT (decide_eq_true rfl) ?_⟩
    refine ⟨_, rfl, _, rfl, sc, ?_⟩
    rw [decide_eq_true rfl]
    exact q _ (same_upd nt)
  · refine ⟨_, rfl, x, .ty "bool", .type t, .type "bool", false, rfl, .ty "bool", ty _, kit_ty kb, _, rfl, iteF ?_⟩
    refine ⟨_, rfl, x, .ty "str", .type t, .type "str", false, rfl, .ty "str", ty _, kit_ty ks, _, rfl, iteF ?_⟩
    refine ⟨_, rfl, x, .ty "int", .type t, .type "int", true, rfl, .ty "int", ty _, kit_ty ki, _, rfl, iteT ?_⟩
    refine ⟨_, rfl, x, .ty "bool", .type t, .type "bool", false, rfl, .ty "bool", ty _, kit_ty kb, _, rfl, _, rfl, iteT ?_⟩
    refine ⟨_, rfl, _, rfl, sc, ?_⟩
    rw [decide_eq_true rfl]
    exact q _ (same_upd nt)
theorem ok_same (T : Sa mg) (D : Dd K mg "_law_same" s__law_same P__law_same) : ∀ n, C8.Cal P w K mg base (n + 1) "_law_same" (spSame K n) [] := by
  intro n
  induction n with
  | zero =>
    refine D.cal sc__law_same (fun vs H Q E h => ?_) (fun f cdv A outer s H vs Q E hr h => ?_)
    · obtain ⟨x, y, d, rfl, _⟩ := h
      rfl
    · obtain ⟨x, y, d, rfl, hx, hy, hs, q⟩ := h
      cases hs with
      | non => cases hx; cases hy; exact same_non T f cdv A outer s H Q E q
      | bl _ b => cases hx; cases hy; exact same_atom T f cdv A outer s H Q E (fun _ => .base (.bl b)) (fun z => nomatch z) (by decide +kernel) (by decide +kernel) (.inl (by decide +kernel)) rfl q
      | int _ i => cases hx; cases hy; exact same_atom T f cdv A outer s H Q E (fun _ => .base (.int i)) (fun z => nomatch z) (by decide +kernel) (by decide +kernel) (.inr (.inr ⟨by decide +kernel, by decide +kernel, by decide +kernel⟩)) rfl q
      | str _ z => cases hx; cases hy; exact same_atom T f cdv A outer s H Q E (fun _ => .base (.str z)) (fun z => nomatch z) (by decide +kernel) (by decide +kernel) (.inr (.inl ⟨by decide +kernel, by decide +kernel⟩)) rfl q
  | succ n c_law_same =>
    refine D.cal sc__law_same (fun vs H Q E h => ?_) (fun f cdv A outer s H vs Q E hr h => ?_)
    · obtain ⟨x, y, d, rfl, _⟩ := h
      rfl
    · obtain ⟨x, y, d, rfl, hx, hy, hs, q⟩ := h
      cases hs with
      | non => cases hx; cases hy; exact same_non T f cdv A outer s H Q E q
      | bl _ b => cases hx; cases hy; exact same_atom T f cdv A outer s H Q E (fun _ => .base (.bl b)) (fun z => nomatch z) (by decide +kernel) (by decide +kernel) (.inl (by decide +kernel)) rfl q
      | int _ i => cases hx; cases hy; exact same_atom T f cdv A outer s H Q E (fun _ => .base (.int i)) (fun z => nomatch z) (by decide +kernel) (by decide +kernel) (.inr (.inr ⟨by decide +kernel, by decide +kernel, by decide +kernel⟩)) rfl q
      | str _ z => cases hx; cases hy; exact same_atom T f cdv A outer s H Q E (fun _ => .base (.str z)) (fun z => nomatch z) (by decide +kernel) (by decide +kernel) (.inr (.inl ⟨by decide +kernel, by decide +kernel⟩)) rfl q
      | lst _ hlen hall =>
        rename_i ds
        cases hx with
        | lst hS hd =>
          rename_i a xs
          cases hy with
          | lst hS2 hd2 =>
            rename_i b ys
            refine ⟨_, (pss_cons (ps_if (pt_val (pe_callB call_isiT (by rfl) T.isinstance (by decide +kernel) (pa_cons (pv 1) (pa_cons (pe_tup (pa_cons (pe_bltn (v := .ty "list") rfl T.list (by decide +kernel) rfl) (pa_cons (pe_bltn (v := .ty "tuple") rfl T.tuple (by decide +kernel) rfl) pa_nil))) pa_nil))))
      (pss_cons (ps_if (PW.pt (pw_or (pt_cmpR op_ne (pe_callB call_isi (by rfl) T.isinstance (by decide +kernel) (pa_cons (pv 0) (pa_cons (pe_bltn (v := .ty "list") rfl T.list (by decide +kernel) rfl) pa_nil))) (pe_callB call_isi (by rfl) T.isinstance (by decide +kernel) (pa_cons (pv 1) (pa_cons (pe_bltn (v := .ty "list") rfl T.list (by decide +kernel) rfl) pa_nil))) (nomark _)) (pw_or1 (pt_cmpR op_ne (pe_callB call_isi (by rfl) T.isinstance (by decide +kernel) (pa_cons (pv 0) (pa_cons (pe_bltn (v := .ty "tuple") rfl T.tuple (by decide +kernel) rfl) pa_nil))) (pe_callB call_isi (by rfl) T.isinstance (by decide +kernel) (pa_cons (pv 1) (pa_cons (pe_bltn (v := .ty "tuple") rfl T.tuple (by decide +kernel) rfl) pa_nil))) (nomark _)))))
      (pss_one ps_never)
      pss_nil)
    (pss_one (ps_ret (pe_and (pe_cmpR op_eq (pe_callB call_len_seq (by rfl) T.len PySem.boot_len (pa_cons (pv 0) pa_nil)) (pe_callB call_len_seq (by rfl) T.len PySem.boot_len (pa_cons (pv 1) pa_nil)) (nomark _)) (pe_one (pe_callB (cr_all rfl) (by rfl) T.all (by decide +kernel) (pa_cons (pe_lc (g := gTup K 2 (gCons (gName 2) (gCons (gName 3) gNil))) (own := [("_law_one", 2), ("_law_other", 3)]) (by exact rfl) sc__law_same.nd (RZ.pi_zipA (by rfl) T.zip (pa_cons (pv 0) (pa_cons (pv 1) pa_nil))) (blkOk_by (own := [("_law_one", 2), ("_law_other", 3)]) (N := N__law_same) (sc := defScope s__law_same) (by decide +kernel)) (fun _ _ _ _ _ => (pg_tup (n := 2) rfl (pgs_cons (pg_name (i := 2) sc__law_same.nd rfl (Or.inl rfl) (Or.inr rfl)) (pgs_cons (pg_name (i := 3) sc__law_same.nd rfl (Or.inl rfl) (Or.inr rfl)) pgs_nil)))) (fun _ _ _ _ _ => pts_nil) (fun _ _ _ _ _ => (C8.pe_c c_law_same hr (by omega) (by rfl) (pa_cons (pv 2) (pa_cons (pv 3) pa_nil))))) pa_nil)))))))
      pss_nil)
    (pss_cons ps_never (pss_cons ps_never (pss_one ps_never)))), ?_⟩
            have lx := dpAll_len hd
            have ly := dpAll_len hd2
            refine ⟨_, rfl, by show 2 ≤ sizeLine; decide, fun tp nt => ?_⟩
            have s1 := same_upd (o := .tup [.ty "list", .ty "tuple"]) nt
            have h1 := Same.seqL s1 hS
            have h2 := Same.seqL s1 hS2
            refine ⟨.ref b, tp, _, .type "list", [.type "list", .type "tuple"], true, rfl, upd_same, .cons (.ty "list") (.cons (.ty "tuple") .nil), tyL h2, kitLT (by decide +kernel) (fun e => nomatch e), _, rfl, iteT ?_⟩
            refine ⟨_, rfl, .ref a, .ty "list", .type "list", .type "list", true, rfl, .ty "list", tyL h1, kit_ty (by decide +kernel), ?_⟩
            refine ⟨_, rfl, .ref b, .ty "list", .type "list", .type "list", true, rfl, .ty "list", tyL h2, kit_ty (by decide +kernel), rfl, _, rfl, iteF ?_⟩
            refine ⟨_, rfl, .ref a, .ty "tuple", .type "list", .type "tuple", false, rfl, .ty "tuple", tyL h1, kit_ty (by decide +kernel), ?_⟩
            refine ⟨_, rfl, .ref b, .ty "tuple", .type "list", .type "tuple", false, rfl, .ty "tuple", tyL h2, kit_ty (by decide +kernel), rfl, _, rfl, iteF ?_⟩
            refine ⟨_, rfl, a, xs, rfl, .inl h1, ?_⟩
            refine ⟨_, rfl, b, ys, rfl, .inl h2, rfl, _, rfl, ifT (by rw [lx, ly]; exact decide_eq_true rfl) ?_⟩
            refine ⟨_, rfl, _, rfl, a, b, xs, ys, rfl, .inl ⟨h1, h2, fun D nD => ?_⟩⟩
            refine lc_it (walk_zip (K := K) (a := a) (b := b) (xs := xs) (ys := ys) rfl) (fun j H' => Same H H' ∧ H' D = some (.lst ((List.replicate j true).map V.bl)))
              ⟨Same.trans s1 (same_upd nD), upd_same⟩ (fun j H' _ h => ⟨Same.seqL h.1 hS, Same.seqL h.1 hS2⟩) ?_ ?_
            · rintro j v H3 H4 hj ⟨sm, hD⟩ ⟨U, x, y, rfl, nU, rfl, ex, ey⟩
              obtain ⟨d1, e1, g1⟩ := dpAll_at hd ex
              obtain ⟨d2, e2, g2⟩ := dpAll_at hd2 ey
              rw [e1] at e2
              cases e2
              have sU : Same H3 (upd H3 U (.tup [x, y])) := same_upd nU
              have s5 := sm.trans sU
              refine ⟨U, _, rfl, SqT.of upd_same, rfl, _, _, rfl, _, _, rfl, rfl, ?_⟩
              refine ⟨rfl, yesT ?_⟩
              refine ⟨_, rfl, _, rfl, x, y, d1, rfl, dp_same s5 g1, dp_same s5 g2, hall d1 (List.mem_of_getElem? e1), fun H6 s6 => ?_⟩
              refine ⟨_, s6 _ _ (sU _ _ hD), by rw [List.length_map, List.length_replicate]; exact small1000 (by omega), Same.at_ (s5.trans s6) (s1.free nD), ?_⟩
              rw [upd_same, List.replicate_succ', List.map_append]
              rfl
            · rintro H6 ⟨s6, hD⟩
              refine ⟨D, _, rfl, SqL.of hD, ?_⟩
              rw [allTrue]
              exact q H6 s6
      | tup _ hlen hall =>
        rename_i ds
        cases hx with
        | tup hS hd =>
          rename_i a xs
          cases hy with
          | tup hS2 hd2 =>
            rename_i b ys
            refine ⟨_, (pss_cons (ps_if (pt_val (pe_callB call_isiT (by rfl) T.isinstance (by decide +kernel) (pa_cons (pv 1) (pa_cons (pe_tup (pa_cons (pe_bltn (v := .ty "list") rfl T.list (by decide +kernel) rfl) (pa_cons (pe_bltn (v := .ty "tuple") rfl T.tuple (by decide +kernel) rfl) pa_nil))) pa_nil))))
      (pss_cons (ps_if (PW.pt (pw_or (pt_cmpR op_ne (pe_callB call_isi (by rfl) T.isinstance (by decide +kernel) (pa_cons (pv 0) (pa_cons (pe_bltn (v := .ty "list") rfl T.list (by decide +kernel) rfl) pa_nil))) (pe_callB call_isi (by rfl) T.isinstance (by decide +kernel) (pa_cons (pv 1) (pa_cons (pe_bltn (v := .ty "list") rfl T.list (by decide +kernel) rfl) pa_nil))) (nomark _)) (pw_or1 (pt_cmpR op_ne (pe_callB call_isi (by rfl) T.isinstance (by decide +kernel) (pa_cons (pv 0) (pa_cons (pe_bltn (v := .ty "tuple") rfl T.tuple (by decide +kernel) rfl) pa_nil))) (pe_callB call_isi (by rfl) T.isinstance (by decide +kernel) (pa_cons (pv 1) (pa_cons (pe_bltn (v := .ty "tuple") rfl T.tuple (by decide +kernel) rfl) pa_nil))) (nomark _)))))
      (pss_one ps_never)
      pss_nil)
    (pss_one (ps_ret (pe_and (pe_cmpR op_eq (pe_callB call_len_seq (by rfl) T.len PySem.boot_len (pa_cons (pv 0) pa_nil)) (pe_callB call_len_seq (by rfl) T.len PySem.boot_len (pa_cons (pv 1) pa_nil)) (nomark _)) (pe_one (pe_callB (cr_all rfl) (by rfl) T.all (by decide +kernel) (pa_cons (pe_lc (g := gTup K 2 (gCons (gName 2) (gCons (gName 3) gNil))) (own := [("_law_one", 2), ("_law_other", 3)]) (by exact rfl) sc__law_same.nd (RZ.pi_zipA (by rfl) T.zip (pa_cons (pv 0) (pa_cons (pv 1) pa_nil))) (blkOk_by (own := [("_law_one", 2), ("_law_other", 3)]) (N := N__law_same) (sc := defScope s__law_same) (by decide +kernel)) (fun _ _ _ _ _ => (pg_tup (n := 2) rfl (pgs_cons (pg_name (i := 2) sc__law_same.nd rfl (Or.inl rfl) (Or.inr rfl)) (pgs_cons (pg_name (i := 3) sc__law_same.nd rfl (Or.inl rfl) (Or.inr rfl)) pgs_nil)))) (fun _ _ _ _ _ => pts_nil) (fun _ _ _ _ _ => (C8.pe_c c_law_same hr (by omega) (by rfl) (pa_cons (pv 2) (pa_cons (pv 3) pa_nil))))) pa_nil)))))))
      pss_nil)
    (pss_cons ps_never (pss_cons ps_never (pss_one ps_never)))), ?_⟩
            have lx := dpAll_len hd
            have ly := dpAll_len hd2
            refine ⟨_, rfl, by show 2 ≤ sizeLine; decide, fun tp nt => ?_⟩
            have s1 := same_upd (o := .tup [.ty "list", .ty "tuple"]) nt
            have h1 := Same.seqT s1 hS
            have h2 := Same.seqT s1 hS2
            refine ⟨.ref b, tp, _, .type "tuple", [.type "list", .type "tuple"], true, rfl, upd_same, .cons (.ty "list") (.cons (.ty "tuple") .nil), tyT h2, kitLT2, _, rfl, iteT ?_⟩
            refine ⟨_, rfl, .ref a, .ty "list", .type "tuple", .type "list", false, rfl, .ty "list", tyT h1, kit_ty (by decide +kernel), ?_⟩
            refine ⟨_, rfl, .ref b, .ty "list", .type "tuple", .type "list", false, rfl, .ty "list", tyT h2, kit_ty (by decide +kernel), rfl, _, rfl, iteF ?_⟩
            refine ⟨_, rfl, .ref a, .ty "tuple", .type "tuple", .type "tuple", true, rfl, .ty "tuple", tyT h1, kit_ty (by decide +kernel), ?_⟩
            refine ⟨_, rfl, .ref b, .ty "tuple", .type "tuple", .type "tuple", true, rfl, .ty "tuple", tyT h2, kit_ty (by decide +kernel), rfl, _, rfl, iteF ?_⟩
            refine ⟨_, rfl, a, xs, rfl, .inr h1, ?_⟩
            refine ⟨_, rfl, b, ys, rfl, .inr h2, rfl, _, rfl, ifT (by rw [lx, ly]; exact decide_eq_true rfl) ?_⟩
            refine ⟨_, rfl, _, rfl, a, b, xs, ys, rfl, .inr ⟨h1, h2, fun D nD => ?_⟩⟩
            refine lc_it (walk_zipT (K := K) (a := a) (b := b) (xs := xs) (ys := ys) rfl) (fun j H' => Same H H' ∧ H' D = some (.lst ((List.replicate j true).map V.bl)))
              ⟨Same.trans s1 (same_upd nD), upd_same⟩ (fun j H' _ h => ⟨Same.seqT h.1 hS, Same.seqT h.1 hS2⟩) ?_ ?_
            · rintro j v H3 H4 hj ⟨sm, hD⟩ ⟨U, x, y, rfl, nU, rfl, ex, ey⟩
              obtain ⟨d1, e1, g1⟩ := dpAll_at hd ex
              obtain ⟨d2, e2, g2⟩ := dpAll_at hd2 ey
              rw [e1] at e2
              cases e2
              have sU : Same H3 (upd H3 U (.tup [x, y])) := same_upd nU
              have s5 := sm.trans sU
              refine ⟨U, _, rfl, SqT.of upd_same, rfl, _, _, rfl, _, _, rfl, rfl, ?_⟩
              refine ⟨rfl, yesT ?_⟩
              refine ⟨_, rfl, _, rfl, x, y, d1, rfl, dp_same s5 g1, dp_same s5 g2, hall d1 (List.mem_of_getElem? e1), fun H6 s6 => ?_⟩
              refine ⟨_, s6 _ _ (sU _ _ hD), by rw [List.length_map, List.length_replicate]; exact small1000 (by omega), Same.at_ (s5.trans s6) (s1.free nD), ?_⟩
              rw [upd_same, List.replicate_succ', List.map_append]
              rfl
            · rintro H6 ⟨s6, hD⟩
              refine ⟨D, _, rfl, SqL.of hD, ?_⟩
              rw [allTrue]
              exact q H6 s6
end
abbrev s__law_right : Stmt := top 34
abbrev N__law_right : List Str := ["_law_a", "_law_b", "_law_over_here", "_law_due", "_law_some", "_law_one", "_law_k"]
abbrev P__law_right : List Str := ["_law_a", "_law_b"]
theorem sc__law_right : FnScope N__law_right P__law_right (defScope s__law_right) := ⟨rfl, rfl, rfl, by decide +kernel, rfl, by decide +kernel, by decide +kernel⟩
theorem dpAll_of {K : PySem.W.Frag} {H : Hp} : ∀ {vs : List V} {ds : List PyData}, vs.length = ds.length → (∀ (i : Nat) v d, vs[i]? = some v → ds[i]? = some d → Dp K H v d) → DpAll K H vs ds
  | [], [], _, _ => .nil
  | [], _ :: _, e, _ => nomatch e
  | _ :: _, [], e, _ => nomatch e
  | v :: vs, d :: ds, e, h => .cons (h 0 v d rfl rfl) (dpAll_of (Nat.succ.inj e) fun i v d h1 h2 => h (i + 1) v d h1 h2)
theorem ErK.same {K : PySem.W.Frag} {H H' : Hp} {e C : Addr} {i : Nat} {da db : PyData} (h : ErK K H e C i da db) (s : Same H H') : ErK K H' e C i da db := by
  revert h
  unfold ErK
  rcases fl i with ⟨f1, _ | f2⟩
  · rintro ⟨y, h1, h2⟩
    exact ⟨y, h1.same s, dp_same s h2⟩
  · rintro ⟨y1, y2, h1, h2, h3⟩
    exact ⟨y1, y2, h1.same s, dp_same s h2, dp_same s h3⟩
theorem ErK.at_ {K : PySem.W.Frag} {H : Hp} {e C : Addr} {i : Nat} {da db : PyData} (h : ErK K H e C i da db) : ∃ fs, ErAt H e C fs := by
  revert h
  unfold ErK
  rcases fl i with ⟨f1, _ | f2⟩
  · rintro ⟨y, h1, h2⟩
    exact ⟨_, h1⟩
  · rintro ⟨y1, y2, h1, h2, h3⟩
    exact ⟨_, h1⟩
theorem Ers.same {K : PySem.W.Frag} {H H' : Hp} {CA : Nat → Addr} {es : List Addr} {da db : PyData} (h : Ers K H CA es da db) (s : Same H H') : Ers K H' CA es da db := ⟨h.1, fun i e he => (h.2 i e he).same s⟩
/-- a list of lists -/
def LL (H : Hp) (D : Addr) (j : Nat) (c : Nat → List V) : Prop := ∃ ls : List Addr, H D = some (.lst (ls.map V.ref)) ∧ ls.length = j ∧ ∀ i l, ls[i]? = some l → l ≠ D ∧ H l = some (.lst (c i))
theorem LL.nil {H : Hp} {D : Addr} {c : Nat → List V} : LL (upd H D (.lst [])) D 0 c := ⟨[], upd_same, rfl, fun i l e => by cases i <;> cases e⟩
theorem LL.snoc {H3 H4 : Hp} {D l : Addr} {j : Nat} {c : Nat → List V} (h : LL H3 D j c) (s : Same H3 H4) (hl : H4 l = some (.lst (c j))) (n : l ≠ D) : ∃ acc : List V, H4 D = some (.lst acc) ∧ acc.length = j ∧ LL (upd H4 D (.lst (acc ++ [.ref l]))) D (j + 1) c := by
  obtain ⟨ls, h1, h2, h3⟩ := h
  refine ⟨_, s _ _ h1, by rw [List.length_map]; exact h2, ls ++ [l], by rw [upd_same, List.map_append]; rfl, by rw [List.length_append, h2]; rfl, fun i x e => ?_⟩
  by_cases hi : i < ls.length
  · rw [List.getElem?_append_left hi] at e
    obtain ⟨n1, e1⟩ := h3 i x e
    exact ⟨n1, by rw [upd_ne n1]; exact s _ _ e1⟩
  · rw [List.getElem?_append_right (by omega)] at e
    have e0 : i - ls.length = 0 := by
      cases e9 : i - ls.length with
      | zero => rfl
      | succ m => rw [e9] at e; cases e
    rw [e0] at e
    cases e
    have hij : i = j := by omega
    subst hij
    exact ⟨n, by rw [upd_ne n]; exact hl⟩
theorem LL.dp {K : PySem.W.Frag} {H : Hp} {D : Addr} {n : Nat} {c : Nat → List V} {dd : Nat → List PyData} (h : LL H D n c) (hd : ∀ i, DpAll K H (c i) (dd i)) : Dp K H (.ref D) (.list ((List.range n).map fun i => .list (dd i))) := by
  obtain ⟨ls, h1, h2, h3⟩ := h
  refine .lst (SqL.of h1) (dpAll_of (by rw [List.length_map, List.length_map, List.length_range, h2]) fun i v d ev ed => ?_)
  rw [List.getElem?_map] at ev ed
  cases e : ls[i]? with
  | none => rw [e] at ev; cases ev
  | some l =>
    rw [e] at ev
    cases ev
    have hi : i < n := by
      rw [← h2]
      exact (List.getElem?_eq_some_iff.mp e).1
    rw [List.getElem?_range hi] at ed
    cases ed
    exact .lst (SqL.of (h3 i l e).2) (hd i)
def ob (i j : Nat) : Bool := match j with
  | 0 => decide (i < 7)
  | 1 => decide (7 ≤ i ∧ i < 10)
  | 2 => decide (7 ≤ i ∧ i < 12)
  | 3 => decide (i = 11)
  | 4 => decide (12 ≤ i ∧ i < 16)
  | 5 => decide (16 ≤ i)
  | 6 => decide (i = 17)
  | _ => false
def pickedD (b : Nat → Bool) : List PyData := ((List.range 7).filter b).map fun k => PyData.str (wd k)
theorem picked_dp {K : PySem.W.Frag} {H : Hp} (b : Nat → Bool) : DpAll K H (picked b 7) (pickedD b) := by
  unfold picked pickedD
  generalize (List.range 7).filter b = ks
  induction ks with
  | nil => exact .nil
  | cons k ks ih => exact .cons (.str _) ih
def ownD : PyData := .list ((List.range 18).map fun i => .list [.int (i : Nat)])
def overD : PyData := .list ((List.range 18).map fun i => .list (pickedD (ob i)))
theorem ownD_sh : SeqAt.shaped ownD = true := by decide +kernel
theorem overD_sh : SeqAt.shaped overD = true := by decide +kernel
theorem ownD_eq : PyData.eqv ownD ownD = true := SeqAt.eqv_refl _ (SeqAt.canLay_of_shaped ownD_sh)
theorem overD_eq : PyData.eqv overD overD = true := SeqAt.eqv_refl _ (SeqAt.canLay_of_shaped overD_sh)
structure Kn (K : PySem.W.Frag) (CA : Nat → Addr) : Prop where
  xv : ∀ i, i < 18 → XvC K (CA i)
  kk : ∀ i k, i < 18 → k < 18 → PySem.W.kitOne K (.ref (CA i)) (.ref (CA k)) = some (decide (i = k))
  ov : ∀ i, i < 18 → (PySem.W.kitOne K (.ref (CA i)) (.type "ValueError") = some (ob i 0) ∧ PySem.W.kitOne K (.ref (CA i)) (.type "KeyError") = some (ob i 1) ∧ PySem.W.kitOne K (.ref (CA i)) (.type "LookupError") = some (ob i 2) ∧ PySem.W.kitOne K (.ref (CA i)) (.type "IndexError") = some (ob i 3) ∧ PySem.W.kitOne K (.ref (CA i)) (.type "RuntimeError") = some (ob i 4) ∧ PySem.W.kitOne K (.ref (CA i)) (.type "ArithmeticError") = some (ob i 5) ∧ PySem.W.kitOne K (.ref (CA i)) (.type "OverflowError") = some (ob i 6))
def spRight5 (K : PySem.W.Frag) : Sp := fun vs H Q _ => ∃ (xa xb : V) (da db : PyData), vs = [xa, xb] ∧ Dp K H xa da ∧ Sm 4 da ∧ Dp K H xb db ∧ Sm 4 db ∧ ∀ H', Same H H' → Q (.bl true) H'
theorem sm_up {n : Nat} {d : PyData} (h : Sm n d) : Sm (n + 1) d := by
  induction h with
  | non => exact .non _
  | bl _ b => exact .bl _ b
  | int _ i => exact .int _ i
  | str _ z => exact .str _ z
  | lst n h a ih => exact .lst _ h ih
  | tup n h a ih => exact .tup _ h ih
theorem due_sm {da db : PyData} (sa : Sm 4 da) (sb : Sm 4 db) : Sm 6 (.list (dueData da db)) := by
  refine .lst 5 (by unfold dueData; simp) fun d hd => ?_
  have ht : Sm 5 (.tuple [da, db]) := .tup 4 (by simp) fun d hd => by
    simp only [List.mem_cons, List.not_mem_nil, or_false] at hd
    rcases hd with rfl | rfl
    · exact sa
    · exact sb
  have hd2 : d = .tuple [da, db] ∨ d = da := by
    unfold dueData at hd
    simp only [List.mem_cons, List.not_mem_nil, or_false] at hd
    rcases hd with h | h | h | h | h | h | h | h | h | h | h | h | h | h | h | h | h | h <;> first | exact .inl h | exact .inr h
  rcases hd2 with rfl | rfl
  · exact ht
  · exact sm_up sa
section
variable {P : Program} {w : World} {K : PySem.W.Frag} {mg : Str → Option Value} {base : Heap} {CA : Nat → Addr}
theorem ok_right5 (T : Sa mg) (N : Kn K CA) (c_law_made : C8.Cal P w K mg base 8 "_law_made" (spMade K CA) []) (c_law_called : C8.Cal P w K mg base 8 "_law_called" (spMade K CA) []) (c_law_own : C8.Cal P w K mg base 1 "_law_own" (spOwn18 K CA) [])
    (c_law_over : C8.Cal P w K mg base 1 "_law_over" (spOver7 K) []) (c_law_same : C8.Cal P w K mg base 7 "_law_same" (spSame K 6) []) (c_law_fields : C8.Cal P w K mg base 1 "_law_fields" (spFields K CA) [])
    (D : Dd K mg "_law_right" s__law_right P__law_right) : C8.Cal P w K mg base 9 "_law_right" (spRight5 K) [] := by
  refine D.cal sc__law_right (fun vs H Q E h => ?_) (fun f cdv A outer s H vs Q E hr h => ?_)
  · obtain ⟨xa, xb, da, db, rfl, _⟩ := h
    rfl
  · obtain ⟨xa, xb, da, db, rfl, ha, sa, hb, sb, q⟩ := h
    refine ⟨_, (pss_cons (ps_set (i := 2) sc__law_right.nd rfl (Or.inl rfl) (pe_op op_cat (pe_op op_cat (pe_op op_cat (pe_op op_rep (pe_lst (pa_cons (pe_lst (pa_cons pe_str pa_nil)) pa_nil)) pe_int) (pe_op op_rep (pe_lst (pa_cons (pe_lst (pa_cons pe_str (pa_cons pe_str pa_nil))) pa_nil)) pe_int)) (pe_lst (pa_cons (pe_lst (pa_cons pe_str pa_nil)) (pa_cons (pe_lst (pa_cons pe_str (pa_cons pe_str pa_nil))) pa_nil)))) (pe_op op_rep (pe_lst (pa_cons (pe_lst (pa_cons pe_str pa_nil)) pa_nil)) pe_int)))
        (pss_cons (ps_set (i := 2) sc__law_right.nd rfl (Or.inl rfl) (pe_op op_cat (pv 2) (pe_lst (pa_cons (pe_lst (pa_cons pe_str pa_nil)) (pa_cons (pe_lst (pa_cons pe_str (pa_cons pe_str pa_nil))) pa_nil)))))
        (pss_cons (ps_set (i := 3) sc__law_right.nd rfl (Or.inl rfl) (pe_op op_rep (pe_lst (pa_cons (pv 0) pa_nil)) pe_int))
        (pss_cons (ps_asg (pe_tup (pa_cons (pe_tup (pa_cons (pv 0) (pa_cons (pv 1) pa_nil))) (pa_cons (pe_tup (pa_cons (pv 0) (pa_cons (pv 1) pa_nil))) (pa_cons (pe_tup (pa_cons (pv 0) (pa_cons (pv 1) pa_nil))) pa_nil)))) (pg_tup rfl (pgs_cons (pg_sub (pv 3) pe_int set_list) (pgs_cons (pg_sub (pv 3) pe_int set_list) (pgs_cons (pg_sub (pv 3) pe_int set_list) pgs_nil)))))
        (pss_cons (ps_for PassesOwn.never rfl (pi_tup (pe_tup (pa_cons (C8.pe_c c_law_made hr (by decide) (by rfl) (pa_cons (pv 0) (pa_cons (pv 1) pa_nil))) (pa_cons (C8.pe_c c_law_called hr (by decide) (by rfl) (pa_cons (pv 0) (pa_cons (pv 1) pa_nil))) pa_nil)))) (pg_name (i := 4) sc__law_right.nd rfl (Or.inl rfl))
          (pss_cons (ps_if (PW.pt (pw_or (pt_cmpR (op_neD hr.units) (pe_lc (own := [("_law_one", 5)]) (by exact rfl) sc__law_right.nd (pi_list (pv 4)) (blkOk_by (own := [("_law_one", 5)]) (N := N__law_right) (sc := defScope s__law_right) (by decide +kernel)) (fun _ _ _ _ _ => (pg_name (i := 5) sc__law_right.nd rfl (Or.inl rfl))) (fun _ _ _ _ _ => pts_nil) (fun _ _ _ _ _ => (C8.pe_c c_law_own hr (by decide) (by rfl) (pa_cons (pv 5) pa_nil)))) (pe_lc (own := [("_law_k", 6)]) (by exact rfl) sc__law_right.nd (pi_range1 rfl T.range (pa_cons pe_int pa_nil)) (blkOk_by (own := [("_law_k", 6)]) (N := N__law_right) (sc := defScope s__law_right) (by decide +kernel)) (fun _ _ _ _ _ => (pg_name (i := 6) sc__law_right.nd rfl (Or.inl rfl))) (fun _ _ _ _ _ => pts_nil) (fun _ _ _ _ _ => (pe_lst (pa_cons (pv 6) pa_nil)))) (nomark _)) (pw_or1 (pt_cmpR (op_neD hr.units) (pe_lc (own := [("_law_one", 5)]) (by exact rfl) sc__law_right.nd (pi_list (pv 4)) (blkOk_by (own := [("_law_one", 5)]) (N := N__law_right) (sc := defScope s__law_right) (by decide +kernel)) (fun _ _ _ _ _ => (pg_name (i := 5) sc__law_right.nd rfl (Or.inl rfl))) (fun _ _ _ _ _ => pts_nil) (fun _ _ _ _ _ => (C8.pe_c c_law_over hr (by decide) (by rfl) (pa_cons (pv 5) pa_nil)))) (pv 2) (nomark _)))))
          (pss_one (ps_ret pe_bl))
          pss_nil)
        (pss_one (ps_if (pt_not (pt_val (C8.pe_c c_law_same hr (by decide) (by rfl) (pa_cons (C8.pe_c c_law_fields hr (by decide) (by rfl) (pa_cons (pv 4) pa_nil)) (pa_cons (pv 3) pa_nil)))))
          (pss_one (ps_ret pe_bl))
          pss_nil))))
        (pss_one (ps_ret pe_bl))))))), ?_⟩
    have s0 : Same H H := Same.refl H
    refine ⟨by show 1 ≤ sizeLine; decide, fun u1 n1 => ?_⟩
    have b1 := same_upd (o := .lst [.str "value"]) n1
    have s1 := Same.trans s0 b1
    refine ⟨by show 1 ≤ sizeLine; decide, fun u2 n2 => ?_⟩
    have b2 := same_upd (o := .lst [.ref u1]) n2
    have s2 := Same.trans s1 b2
    refine ⟨u2, 7, _, rfl, rfl, upd_same, by decide, by decide, by show 7 ≤ sizeLine; decide, fun u3 n3 => ?_⟩
    have b3 := same_upd (o := .lst (List.replicate (Int.toNat 7) [.ref u1]).flatten) n3
    have s3 := Same.trans s2 b3
    refine ⟨by show 2 ≤ sizeLine; decide, fun u4 n4 => ?_⟩
    have b4 := same_upd (o := .lst [.str "key", .str "lookup"]) n4
    have s4 := Same.trans s3 b4
    refine ⟨by show 1 ≤ sizeLine; decide, fun u5 n5 => ?_⟩
    have b5 := same_upd (o := .lst [.ref u4]) n5
    have s5 := Same.trans s4 b5
    refine ⟨u5, 3, _, rfl, rfl, upd_same, by decide, by decide, by show 3 ≤ sizeLine; decide, fun u6 n6 => ?_⟩
    have b6 := same_upd (o := .lst (List.replicate (Int.toNat 3) [.ref u4]).flatten) n6
    have s6 := Same.trans s5 b6
    refine ⟨u3, u6, _, _, rfl, rfl, b6 _ _ (b5 _ _ (b4 _ _ upd_same)), upd_same, by show 10 ≤ sizeLine; decide, fun u7 n7 => ?_⟩
    have b7 := same_upd (o := .lst ((List.replicate (Int.toNat 7) [.ref u1]).flatten ++ (List.replicate (Int.toNat 3) [.ref u4]).flatten)) n7
    have s7 := Same.trans s6 b7
    refine ⟨by show 1 ≤ sizeLine; decide, fun u8 n8 => ?_⟩
    have b8 := same_upd (o := .lst [.str "lookup"]) n8
    have s8 := Same.trans s7 b8
    refine ⟨by show 2 ≤ sizeLine; decide, fun u9 n9 => ?_⟩
    have b9 := same_upd (o := .lst [.str "lookup", .str "index"]) n9
    have s9 := Same.trans s8 b9
    refine ⟨by show 2 ≤ sizeLine; decide, fun u10 n10 => ?_⟩
    have b10 := same_upd (o := .lst [.ref u8, .ref u9]) n10
    have s10 := Same.trans s9 b10
    refine ⟨u7, u10, _, _, rfl, rfl, b10 _ _ (b9 _ _ (b8 _ _ upd_same)), upd_same, by show 12 ≤ sizeLine; decide, fun u11 n11 => ?_⟩
    have b11 := same_upd (o := .lst (((List.replicate (Int.toNat 7) [.ref u1]).flatten ++ (List.replicate (Int.toNat 3) [.ref u4]).flatten) ++ [.ref u8, .ref u9])) n11
    have s11 := Same.trans s10 b11
    refine ⟨by show 1 ≤ sizeLine; decide, fun u12 n12 => ?_⟩
    have b12 := same_upd (o := .lst [.str "runtime"]) n12
    have s12 := Same.trans s11 b12
    refine ⟨by show 1 ≤ sizeLine; decide, fun u13 n13 => ?_⟩
    have b13 := same_upd (o := .lst [.ref u12]) n13
    have s13 := Same.trans s12 b13
    refine ⟨u13, 4, _, rfl, rfl, upd_same, by decide, by decide, by show 4 ≤ sizeLine; decide, fun u14 n14 => ?_⟩
    have b14 := same_upd (o := .lst (List.replicate (Int.toNat 4) [.ref u12]).flatten) n14
    have s14 := Same.trans s13 b14
    refine ⟨u11, u14, _, _, rfl, rfl, b14 _ _ (b13 _ _ (b12 _ _ upd_same)), upd_same, by show 16 ≤ sizeLine; decide, fun u15 n15 => ?_⟩
    have b15 := same_upd (o := .lst ((((List.replicate (Int.toNat 7) [.ref u1]).flatten ++ (List.replicate (Int.toNat 3) [.ref u4]).flatten) ++ [.ref u8, .ref u9]) ++ (List.replicate (Int.toNat 4) [.ref u12]).flatten)) n15
    have s15 := Same.trans s14 b15
    refine ⟨_, rfl, ?_⟩
    refine ⟨by show 1 ≤ sizeLine; decide, fun u16 n16 => ?_⟩
    have b16 := same_upd (o := .lst [.str "sums"]) n16
    have s16 := Same.trans s15 b16
    refine ⟨by show 2 ≤ sizeLine; decide, fun u17 n17 => ?_⟩
    have b17 := same_upd (o := .lst [.str "sums", .str "over"]) n17
    have s17 := Same.trans s16 b17
    refine ⟨by show 2 ≤ sizeLine; decide, fun u18 n18 => ?_⟩
    have b18 := same_upd (o := .lst [.ref u16, .ref u17]) n18
    have s18 := Same.trans s17 b18
    refine ⟨u15, u18, _, _, rfl, rfl, b18 _ _ (b17 _ _ (b16 _ _ upd_same)), upd_same, by show 18 ≤ sizeLine; decide, fun u19 n19 => ?_⟩
    have b19 := same_upd (o := .lst (((((List.replicate (Int.toNat 7) [.ref u1]).flatten ++ (List.replicate (Int.toNat 3) [.ref u4]).flatten) ++ [.ref u8, .ref u9]) ++ (List.replicate (Int.toNat 4) [.ref u12]).flatten) ++ [.ref u16, .ref u17])) n19
    have s19 := Same.trans s18 b19
    refine ⟨_, rfl, by show 1 ≤ sizeLine; decide, fun u20 n20 => ?_⟩
    have b20 := same_upd (o := .lst [xa]) n20
    have s20 := Same.trans s19 b20
    refine ⟨u20, 18, _, rfl, rfl, upd_same, by decide, by decide, by show 18 ≤ sizeLine; decide, fun u21 n21 => ?_⟩
    have b21 := same_upd (o := .lst (List.replicate (Int.toNat 18) [xa]).flatten) n21
    have s21 := Same.trans s20 b21
    refine ⟨_, rfl, _, rfl, by show 2 ≤ sizeLine; decide, fun u22 n22 => ?_⟩
    have b22 := same_upd (o := .tup [xa, xb]) n22
    have s22 := Same.trans s21 b22
    refine ⟨_, rfl, _, rfl, by show 2 ≤ sizeLine; decide, fun u23 n23 => ?_⟩
    have b23 := same_upd (o := .tup [xa, xb]) n23
    have s23 := Same.trans s22 b23
    refine ⟨_, rfl, _, rfl, by show 2 ≤ sizeLine; decide, fun u24 n24 => ?_⟩
    have b24 := same_upd (o := .tup [xa, xb]) n24
    have s24 := Same.trans s23 b24
    refine ⟨by show 3 ≤ sizeLine; decide, fun u25 n25 => ?_⟩
    have b25 := same_upd (o := .tup [.ref u22, .ref u23, .ref u24]) n25
    have s25 := Same.trans s24 b25
    have nu : H u21 = none := s20.free n21
    have w19 : u19 ≠ u21 := ne_of_none (b20 _ _ upd_same) n21
    obtain ⟨G, eG⟩ : ∃ G, G = (upd (upd (upd (upd (upd (upd (upd (upd (upd (upd (upd (upd (upd (upd (upd (upd (upd (upd (upd (upd (upd (upd (upd (upd (upd (H) u1 (.lst [.str "value"])) u2 (.lst [.ref u1])) u3 (.lst (List.replicate (Int.toNat 7) [.ref u1]).flatten)) u4 (.lst [.str "key", .str "lookup"])) u5 (.lst [.ref u4])) u6 (.lst (List.replicate (Int.toNat 3) [.ref u4]).flatten)) u7 (.lst ((List.replicate (Int.toNat 7) [.ref u1]).flatten ++ (List.replicate (Int.toNat 3) [.ref u4]).flatten))) u8 (.lst [.str "lookup"])) u9 (.lst [.str "lookup", .str "index"])) u10 (.lst [.ref u8, .ref u9])) u11 (.lst (((List.replicate (Int.toNat 7) [.ref u1]).flatten ++ (List.replicate (Int.toNat 3) [.ref u4]).flatten) ++ [.ref u8, .ref u9]))) u12 (.lst [.str "runtime"])) u13 (.lst [.ref u12])) u14 (.lst (List.replicate (Int.toNat 4) [.ref u12]).flatten)) u15 (.lst ((((List.replicate (Int.toNat 7) [.ref u1]).flatten ++ (List.replicate (Int.toNat 3) [.ref u4]).flatten) ++ [.ref u8, .ref u9]) ++ (List.replicate (Int.toNat 4) [.ref u12]).flatten))) u16 (.lst [.str "sums"])) u17 (.lst [.str "sums", .str "over"])) u18 (.lst [.ref u16, .ref u17])) u19 (.lst (((((List.replicate (Int.toNat 7) [.ref u1]).flatten ++ (List.replicate (Int.toNat 3) [.ref u4]).flatten) ++ [.ref u8, .ref u9]) ++ (List.replicate (Int.toNat 4) [.ref u12]).flatten) ++ [.ref u16, .ref u17]))) u20 (.lst [xa])) u21 (.lst (List.replicate (Int.toNat 18) [xa]).flatten)) u22 (.tup [xa, xb])) u23 (.tup [xa, xb])) u24 (.tup [xa, xb])) u25 (.tup [.ref u22, .ref u23, .ref u24])) := ⟨_, rfl⟩
    have sG : Same H G := by rw [eG]; exact s25
    have g1 : G u1 = some (.lst [.str "value"]) := by rw [eG]; exact b25 _ _ (b24 _ _ (b23 _ _ (b22 _ _ (b21 _ _ (b20 _ _ (b19 _ _ (b18 _ _ (b17 _ _ (b16 _ _ (b15 _ _ (b14 _ _ (b13 _ _ (b12 _ _ (b11 _ _ (b10 _ _ (b9 _ _ (b8 _ _ (b7 _ _ (b6 _ _ (b5 _ _ (b4 _ _ (b3 _ _ (b2 _ _ upd_same)))))))))))))))))))))))
    have g4 : G u4 = some (.lst [.str "key", .str "lookup"]) := by rw [eG]; exact b25 _ _ (b24 _ _ (b23 _ _ (b22 _ _ (b21 _ _ (b20 _ _ (b19 _ _ (b18 _ _ (b17 _ _ (b16 _ _ (b15 _ _ (b14 _ _ (b13 _ _ (b12 _ _ (b11 _ _ (b10 _ _ (b9 _ _ (b8 _ _ (b7 _ _ (b6 _ _ (b5 _ _ upd_same))))))))))))))))))))
    have g8 : G u8 = some (.lst [.str "lookup"]) := by rw [eG]; exact b25 _ _ (b24 _ _ (b23 _ _ (b22 _ _ (b21 _ _ (b20 _ _ (b19 _ _ (b18 _ _ (b17 _ _ (b16 _ _ (b15 _ _ (b14 _ _ (b13 _ _ (b12 _ _ (b11 _ _ (b10 _ _ (b9 _ _ upd_same))))))))))))))))
    have g9 : G u9 = some (.lst [.str "lookup", .str "index"]) := by rw [eG]; exact b25 _ _ (b24 _ _ (b23 _ _ (b22 _ _ (b21 _ _ (b20 _ _ (b19 _ _ (b18 _ _ (b17 _ _ (b16 _ _ (b15 _ _ (b14 _ _ (b13 _ _ (b12 _ _ (b11 _ _ (b10 _ _ upd_same)))))))))))))))
    have g12 : G u12 = some (.lst [.str "runtime"]) := by rw [eG]; exact b25 _ _ (b24 _ _ (b23 _ _ (b22 _ _ (b21 _ _ (b20 _ _ (b19 _ _ (b18 _ _ (b17 _ _ (b16 _ _ (b15 _ _ (b14 _ _ (b13 _ _ upd_same))))))))))))
    have g16 : G u16 = some (.lst [.str "sums"]) := by rw [eG]; exact b25 _ _ (b24 _ _ (b23 _ _ (b22 _ _ (b21 _ _ (b20 _ _ (b19 _ _ (b18 _ _ (b17 _ _ upd_same))))))))
    have g17 : G u17 = some (.lst [.str "sums", .str "over"]) := by rw [eG]; exact b25 _ _ (b24 _ _ (b23 _ _ (b22 _ _ (b21 _ _ (b20 _ _ (b19 _ _ (b18 _ _ upd_same)))))))
    have g19 : G u19 = some (.lst (((((List.replicate (Int.toNat 7) [.ref u1]).flatten ++ (List.replicate (Int.toNat 3) [.ref u4]).flatten) ++ [.ref u8, .ref u9]) ++ (List.replicate (Int.toNat 4) [.ref u12]).flatten) ++ [.ref u16, .ref u17])) := by rw [eG]; exact b25 _ _ (b24 _ _ (b23 _ _ (b22 _ _ (b21 _ _ (b20 _ _ upd_same)))))
    have g21 : G u21 = some (.lst (List.replicate (Int.toNat 18) [xa]).flatten) := by rw [eG]; exact b25 _ _ (b24 _ _ (b23 _ _ (b22 _ _ upd_same)))
    have g22 : G u22 = some (.tup [xa, xb]) := by rw [eG]; exact b25 _ _ (b24 _ _ (b23 _ _ upd_same))
    have g23 : G u23 = some (.tup [xa, xb]) := by rw [eG]; exact b25 _ _ (b24 _ _ upd_same)
    have g24 : G u24 = some (.tup [xa, xb]) := by rw [eG]; exact b25 _ _ upd_same
    have g25 : G u25 = some (.tup [.ref u22, .ref u23, .ref u24]) := by rw [eG]; exact upd_same
    rw [← eG]
    clear eG b25 b24 b23 b22 b21 b20 b19 b18 b17 b16 b15 b14 b13 b12 b11 b10 b9 b8 b7 b6 b5 b4 b3 b2 b1
    refine ⟨u25, _, rfl, SqT.of g25, rfl, _, _, rfl, _, rfl, u21, _, 0, 0, rfl, rfl, g21, rfl, ?_⟩
    refine ⟨_, _, rfl, _, rfl, u21, _, 5, 5, rfl, rfl, upd_same, rfl, ?_⟩
    refine ⟨_, _, rfl, _, rfl, u21, _, 13, 13, rfl, rfl, upd_same, rfl, rfl, ?_⟩
    obtain ⟨Z, eZ⟩ : ∃ Z, Z = upd (upd (upd G u21 (.lst (((List.replicate (Int.toNat 18) [xa]).flatten).set 0 (.ref u22)))) u21 (.lst ((((List.replicate (Int.toNat 18) [xa]).flatten).set 0 (.ref u22)).set 5 (.ref u23)))) u21 (.lst (((((List.replicate (Int.toNat 18) [xa]).flatten).set 0 (.ref u22)).set 5 (.ref u23)).set 13 (.ref u24))) := ⟨_, rfl⟩
    have sZ : Same H Z := by
      rw [eZ]
      exact Same.at_ (Same.at_ (Same.at_ sG nu) nu) nu
    have keep : ∀ {z : Addr} {o : HO}, G z = some o → z ≠ u21 → Z z = some o := fun {z o} hz nz => by
      rw [eZ, upd_ne nz, upd_ne nz, upd_ne nz]
      exact hz
    have z21 : Z u21 = some (.lst [.ref u22, xa, xa, xa, xa, .ref u23, xa, xa, xa, xa, xa, xa, xa, .ref u24, xa, xa, xa, xa]) := by
      rw [eZ, upd_same]
      rfl
    rw [← eZ]
    clear eZ
    have z1 := keep g1 (fun z => by rw [z, g21] at g1; cases g1)
    have z4 := keep g4 (fun z => by rw [z, g21] at g4; cases g4)
    have z8 := keep g8 (fun z => by rw [z, g21] at g8; cases g8)
    have z9 := keep g9 (fun z => by rw [z, g21] at g9; cases g9)
    have z12 := keep g12 (fun z => by rw [z, g21] at g12; cases g12)
    have z16 := keep g16 (fun z => by rw [z, g21] at g16; cases g16)
    have z17 := keep g17 (fun z => by rw [z, g21] at g17; cases g17)
    have z19 := keep g19 w19
    have z22 := keep g22 (fun z => by rw [z, g21] at g22; cases g22)
    have z23 := keep g23 (fun z => by rw [z, g21] at g23; cases g23)
    have z24 := keep g24 (fun z => by rw [z, g21] at g24; cases g24)
    have dOv : Dp K Z (.ref u19) overD := .lst (SqL.of z19) (.cons (.lst (SqL.of z1) (.cons (.str _) .nil)) (.cons (.lst (SqL.of z1) (.cons (.str _) .nil)) (.cons (.lst (SqL.of z1) (.cons (.str _) .nil)) (.cons (.lst (SqL.of z1) (.cons (.str _) .nil)) (.cons (.lst (SqL.of z1) (.cons (.str _) .nil)) (.cons (.lst (SqL.of z1) (.cons (.str _) .nil)) (.cons (.lst (SqL.of z1) (.cons (.str _) .nil)) (.cons (.lst (SqL.of z4) (.cons (.str _) (.cons (.str _) .nil))) (.cons (.lst (SqL.of z4) (.cons (.str _) (.cons (.str _) .nil))) (.cons (.lst (SqL.of z4) (.cons (.str _) (.cons (.str _) .nil))) (.cons (.lst (SqL.of z8) (.cons (.str _) .nil)) (.cons (.lst (SqL.of z9) (.cons (.str _) (.cons (.str _) .nil))) (.cons (.lst (SqL.of z12) (.cons (.str _) .nil)) (.cons (.lst (SqL.of z12) (.cons (.str _) .nil)) (.cons (.lst (SqL.of z12) (.cons (.str _) .nil)) (.cons (.lst (SqL.of z12) (.cons (.str _) .nil)) (.cons (.lst (SqL.of z16) (.cons (.str _) .nil)) (.cons (.lst (SqL.of z17) (.cons (.str _) (.cons (.str _) .nil))) .nil))))))))))))))))))
    have dDue : Dp K Z (.ref u21) (.list (dueData da db)) := .lst (SqL.of z21) (.cons (.tup (SqT.of z22) (.cons (dp_same sZ ha) (.cons (dp_same sZ hb) .nil))) (.cons (dp_same sZ ha) (.cons (dp_same sZ ha) (.cons (dp_same sZ ha) (.cons (dp_same sZ ha) (.cons (.tup (SqT.of z23) (.cons (dp_same sZ ha) (.cons (dp_same sZ hb) .nil))) (.cons (dp_same sZ ha) (.cons (dp_same sZ ha) (.cons (dp_same sZ ha) (.cons (dp_same sZ ha) (.cons (dp_same sZ ha) (.cons (dp_same sZ ha) (.cons (dp_same sZ ha) (.cons (.tup (SqT.of z24) (.cons (dp_same sZ ha) (.cons (dp_same sZ hb) .nil))) (.cons (dp_same sZ ha) (.cons (dp_same sZ ha) (.cons (dp_same sZ ha) (.cons (dp_same sZ ha) .nil))))))))))))))))))
    refine ⟨_, rfl, _, rfl, xa, xb, da, db, rfl, dp_same sZ ha, sa, dp_same sZ hb, sb, fun H1 l1 es1 s1' hl1 hE1 => ?_⟩
    refine ⟨_, rfl, _, rfl, xa, xb, da, db, rfl, dp_same (sZ.trans s1') ha, sa, dp_same (sZ.trans s1') hb, sb, fun H2 l2 es2 s2' hl2 hE2 => ?_⟩
    refine ⟨by show 2 ≤ sizeLine; decide, fun tp nt => ?_⟩
    have sT : Same H2 (upd H2 tp (.tup [.ref l1, .ref l2])) := same_upd nt
    have htp : (upd H2 tp (.tup [.ref l1, .ref l2])) tp = some (.tup [.ref l1, .ref l2]) := upd_same
    obtain ⟨W, eW⟩ : ∃ W, W = upd H2 tp (.tup [.ref l1, .ref l2]) := ⟨_, rfl⟩
    rw [← eW] at sT htp ⊢
    have sW : Same Z W := (s1'.trans s2').trans sT
    refine ⟨tp, rfl, ⟨_, SqT.of htp⟩, for_tup (K := K) (a := tp) (xs := [.ref l1, .ref l2]) (fun i σ H3 => ∃ y4, σ = [some xa, some xb, some (.ref u19), some (.ref u21), y4, none, none] ∧ Same W H3)
      ⟨none, rfl, Same.refl _⟩ (fun i σ H3 _ ⟨_, _, s3⟩ => SqT.of (s3 _ _ htp)) ?_ ?_⟩
    · rintro i x σ H3 hx ⟨y4, rfl, s3⟩
      obtain ⟨l, es, rfl, hl, hE⟩ : ∃ (l : Addr) (es : List Addr), x = .ref l ∧ W l = some (.lst (es.map V.ref)) ∧ Ers K W CA es da db := by
        match i, hx with
        | 0, hx => exact ⟨l1, es1, (Option.some.inj hx).symm, sT _ _ (s2' _ _ hl1), (hE1.same s2').same sT⟩
        | 1, hx => exact ⟨l2, es2, (Option.some.inj hx).symm, sT _ _ hl2, hE2.same sT⟩
      have h18 := hE.1
      -- of which of the eighteen each is
      refine ⟨_, rfl, l, rfl, ⟨_, SqL.of (s3 _ _ hl)⟩, fun D nD => ?_⟩
      refine lc_list (K := K) (a := l) (xs := es.map V.ref) (fun j H' => Same H3 H' ∧ LL H' D j (fun k => [.int (k : Nat)])) ⟨same_upd nD, .nil⟩ (fun j H' _ h => SqL.of (h.1 _ _ (s3 _ _ hl))) ?_ ?_
      · rintro j v H' hv ⟨sm, hLL⟩
        obtain ⟨e, he, rfl⟩ : ∃ e, es[j]? = some e ∧ v = .ref e := by
          rw [List.getElem?_map] at hv
          cases e : es[j]? with
          | none => rw [e] at hv; cases hv
          | some t => rw [e] at hv; exact ⟨t, rfl, (Option.some.inj hv).symm⟩
        have hj : j < 18 := by
          rw [← h18]
          exact (List.getElem?_eq_some_iff.mp he).1
        obtain ⟨fs, hfs⟩ := (hE.2 j e he).at_
        refine ⟨rfl, yesT ?_⟩
        refine ⟨_, rfl, e, j, fs, rfl, hfs.same (s3.trans sm), hj, N.xv j hj, fun k hk => N.kk j k hj hk, fun H5 r s5 nr hr5 => ?_⟩
        obtain ⟨acc, h1, h2, h3⟩ := hLL.snoc s5 hr5 (fun z => by
          obtain ⟨ls, hh, _⟩ := hLL
          rw [← z, nr] at hh
          cases hh)
        exact ⟨acc, h1, by rw [h2]; exact small1000 (by omega), Same.at_ (sm.trans s5) nD, h3⟩
      rintro H4 ⟨s4, hLL⟩
      rw [List.length_map, h18] at hLL
      have dO : Dp K H4 (.ref D) ownD := hLL.dp (dd := fun i => [.int (i : Nat)]) (fun i => .cons (.int _) .nil)
      refine ⟨18, rfl, by decide, by decide, fun D2 nD2 => ?_⟩
      refine lc_range (lo := 0) (n := Int.toNat 18) (fun j H' => Same H4 H' ∧ LL H' D2 j (fun k => [.int (k : Nat)])) ⟨same_upd nD2, .nil⟩ ?_ ?_
      · rintro j H' hj ⟨sm, hLL⟩
        have hj : j < 18 := hj
        rw [Int.zero_add]
        refine ⟨rfl, yesT ?_⟩
        refine ⟨_, rfl, by show 1 ≤ sizeLine; decide, fun r nr => ?_⟩
        obtain ⟨acc, h1, h2, h3⟩ := hLL.snoc (same_upd (o := .lst [.int (j : Nat)]) nr) upd_same (fun z => by
          obtain ⟨ls, hh, _⟩ := hLL
          rw [← z, nr] at hh
          cases hh)
        exact ⟨acc, h1, by rw [h2]; exact small1000 (by omega), Same.at_ (sm.trans (same_upd nr)) nD2, h3⟩
      rintro H5 ⟨s5, hLL2⟩
      have hLL2 : LL H5 D2 18 (fun k => [.int (k : Nat)]) := hLL2
      have dO2 : Dp K H5 (.ref D2) ownD := hLL2.dp (dd := fun i => [.int (i : Nat)]) (fun i => .cons (.int _) .nil)
      refine ⟨ownD, ownD, dp_same s5 dO, dO2, ownD_sh, ownD_sh, _, rfl, ifF (by rw [ownD_eq]; rfl) ?_⟩
      -- over which of Python's
      have s35 := s4.trans s5
      refine ⟨_, rfl, l, rfl, ⟨_, SqL.of (s35 _ _ (s3 _ _ hl))⟩, fun D3 nD3 => ?_⟩
      refine lc_list (K := K) (a := l) (xs := es.map V.ref) (fun j H' => Same H5 H' ∧ LL H' D3 j (fun k => picked (ob k) 7)) ⟨same_upd nD3, .nil⟩ (fun j H' _ h => SqL.of (h.1 _ _ (s35 _ _ (s3 _ _ hl)))) ?_ ?_
      · rintro j v H' hv ⟨sm, hLL⟩
        obtain ⟨e, he, rfl⟩ : ∃ e, es[j]? = some e ∧ v = .ref e := by
          rw [List.getElem?_map] at hv
          cases e : es[j]? with
          | none => rw [e] at hv; cases hv
          | some t => rw [e] at hv; exact ⟨t, rfl, (Option.some.inj hv).symm⟩
        have hj : j < 18 := by
          rw [← h18]
          exact (List.getElem?_eq_some_iff.mp he).1
        obtain ⟨fs, hfs⟩ := (hE.2 j e he).at_
        refine ⟨rfl, yesT ?_⟩
        refine ⟨_, rfl, e, CA j, ob j, fs, rfl, hfs.same ((s3.trans s35).trans sm), N.xv j hj, N.ov j hj, fun H6 r s6 nr hr6 => ?_⟩
        obtain ⟨acc, h1, h2, h3⟩ := hLL.snoc s6 hr6 (fun z => by
          obtain ⟨ls, hh, _⟩ := hLL
          rw [← z, nr] at hh
          cases hh)
        exact ⟨acc, h1, by rw [h2]; exact small1000 (by omega), Same.at_ (sm.trans s6) nD3, h3⟩
      rintro H6 ⟨s6, hLL3⟩
      rw [List.length_map, h18] at hLL3
      have dV : Dp K H6 (.ref D3) overD := hLL3.dp (dd := fun i => pickedD (ob i)) (fun i => picked_dp _)
      have s36 := s35.trans s6
      have sWZ := (sW.trans s3).trans s36
      refine ⟨_, rfl, overD, overD, dV, dp_same sWZ dOv, overD_sh, overD_sh, _, rfl, ifF (by rw [overD_eq]; rfl) ?_⟩
      refine ⟨_, rfl, l, es, da, db, rfl, s36 _ _ (s3 _ _ hl), hE.same (s3.trans s36), fun H7 r s7 hr7 => ?_⟩
      refine ⟨_, rfl, .ref r, .ref u21, .list (dueData da db), rfl, hr7, dp_same (sWZ.trans s7) dDue, due_sm sa sb, fun H8 s8 => ?_⟩
      refine ⟨_, rfl, iteF ?_⟩
      exact ⟨_, rfl, ((s3.trans s36).trans s7).trans s8⟩
    · rintro σ H3 ⟨y4, rfl, s3⟩
      exact q _ ((sZ.trans sW).trans s3)
end
abbrev s_law : Stmt := top 35
abbrev N_law : List Str := ["_law_script", "_law_cells", "_law_k", "_law_box", "_law_turn"]
abbrev P_law : List Str := ["_law_script"]
theorem sc_law : FnScope N_law P_law (defScope s_law) := ⟨rfl, rfl, rfl, by decide +kernel, rfl, by decide +kernel, by decide +kernel⟩
def spLaw (K : PySem.W.Frag) : Sp := fun vs H Q _ => ∃ (a : Addr) (ns : List Int), vs = [.ref a] ∧ SqL K H a (ns.map V.int) ∧ ns.length ≤ 63 ∧ ∀ H', Q (.bl true) H'
structure Lim (mg : Str → Option Value) : Prop where
  limit : ∃ u, mg "LIMIT" = some u ∧ RelV (.int 400) u
  rounds : ∃ u, mg "ROUNDS" = some u ∧ RelV (.int 120) u
section
variable {P : Program} {w : World} {K : PySem.W.Frag} {mg : Str → Option Value} {base : Heap}
theorem ok_law (T : Sa mg) (N : Lim mg) (c_law_folded : C8.Cal P w K mg base 1 "_law_folded" (spFold K) []) (c_law_dip : C8.Cal P w K mg base 1 "_law_dip" (spDip K) []) (c_law_thing : C8.Cal P w K mg base 2 "_law_thing" (spThing K) [])
    (c_law_right : C8.Cal P w K mg base 9 "_law_right" (spRight5 K) []) (c_law_same : C8.Cal P w K mg base 7 "_law_same" (spSame K 6) [])
    {f : Addr} {fd : FuncData} (F : L2.Fun K "law" "law" s_law f fd) : FnOk P w K mg base CX0 10 f fd ["_law_script"] (spLaw K) := by
  refine F.ok sc_law (fun vs H Q E h => ?_) (fun cdv A outer s H vs Q E hr h => ?_)
  · obtain ⟨a, ns, rfl, _⟩ := h
    rfl
  · obtain ⟨a, ns, rfl, hS, hlen, q⟩ := h
    refine ⟨_, (pss_cons (ps_set (i := 1) sc_law.nd rfl (Or.inl rfl) (C8.pe_c c_law_folded hr (by decide) (by rfl) (pa_cons (pv 0) (pa_cons pe_int pa_nil))))
        (pss_cons (ps_for PassesOwn.never rfl (pi_range1 rfl T.range (pa_cons (pe_op op_add pe_int (pe_callB call_len_seq (by rfl) T.len PySem.boot_len (pa_cons (pv 1) pa_nil))) pa_nil)) (pg_name (i := 2) sc_law.nd rfl (Or.inl rfl))
          (pss_cons (ps_set (i := 3) sc_law.nd rfl (Or.inr rfl) (C8.pe_c c_law_dip hr (by decide) (by rfl) (pa_cons (pv 1) (pa_cons (pv 2) pa_nil))))
        (pss_one (ps_if (pt_not (pt_val (pe_callB (cr_all rfl) (by rfl) T.all (by decide +kernel) (pa_cons (pe_lc (own := [("_law_turn", 4)]) (by exact rfl) sc_law.nd (pi_range1 rfl T.range (pa_cons pe_int pa_nil)) (blkOk_by (own := [("_law_turn", 4)]) (N := N_law) (sc := defScope s_law) (by decide +kernel)) (fun _ _ _ _ _ => (pg_name (i := 4) sc_law.nd rfl (Or.inl rfl))) (fun _ _ _ _ _ => pts_nil) (fun _ _ _ _ _ => (C8.pe_c c_law_right hr (by decide) (by rfl) (pa_cons (C8.pe_c c_law_thing hr (by decide) (by rfl) (pa_cons (pv 3) pa_nil)) (pa_cons (C8.pe_c c_law_thing hr (by decide) (by rfl) (pa_cons (pv 3) pa_nil)) pa_nil))))) pa_nil))))
          (pss_one (ps_ret pe_bl))
          pss_nil))))
        (pss_one (ps_ret (C8.pe_c c_law_same hr (by decide) (by rfl) (pa_cons (pe_lst (pa_cons (C8.pe_gc (v := .int 400) rfl N.limit) (pa_cons (C8.pe_gc (v := .int 120) rfl N.rounds) pa_nil))) (pa_cons (pe_lst (pa_cons pe_int (pa_cons pe_int pa_nil))) pa_nil))))))), ?_⟩
    refine ⟨_, rfl, a, 2, ns, rfl, hS, hlen, by decide, by decide, fun H0 cp ms s1 ncp hcp hml => ?_⟩
    have hlm : ((ms.map V.int).length : Int) ≤ 2 := by
      rw [List.length_map]
      omega
    refine ⟨_, rfl, cp, _, rfl, .inl (SqL.of hcp), _, _, rfl, rfl, _, rfl, by omega, by omega, ?_⟩
    refine for_range (lo := 0) (fun i σ H2 => ∃ y2 y3, σ = [some (.ref a), some (.ref cp), y2, y3, none] ∧ Same H0 H2) ⟨none, none, rfl, Same.refl _⟩ ?_ ?_
    · rintro i σ H2 hi ⟨y2, y3, rfl, s2⟩
      rw [Int.zero_add]
      have hi' : i ≤ 63 := by omega
      refine ⟨_, rfl, _, rfl, cp, i, ms, rfl, SqL.of (s2 _ _ hcp), hi', fun bx b nbx hB => ?_⟩
      have n0 : H0 bx = none := s2.free nbx
      refine ⟨6, rfl, by decide, by decide, fun D nD => ?_⟩
      have nDb : D ≠ bx := fun z => by
        rw [z, upd_same] at nD
        cases nD
      have nD2 : H2 D = none := by
        rw [upd_ne nDb] at nD
        exact nD
      refine lc_range (lo := 0) (n := Int.toNat 6) (fun j H' => Same H2 H' ∧ H' D = some (.lst ((List.replicate j true).map V.bl)) ∧ ∃ b', H' bx = some (.lst b') ∧ BoxL (4 * j) b')
        ⟨Same.trans (same_upd nbx) (same_upd nD), upd_same, b, by rw [upd_ne nDb.symm, upd_same], hB⟩ ?_ ?_
      · rintro j H' hj ⟨sm, hD, b', hbx, hB'⟩
        have hj : j < 6 := hj
        rw [Int.zero_add]
        refine ⟨rfl, yesT ?_⟩
        refine ⟨_, rfl, bx, _, b', rfl, hbx, hB', by omega, fun H3 v d b3 bt3 hb3 hB3 dv sv => ?_⟩
        refine ⟨_, rfl, bx, _, b3, rfl, hb3, hB3, by omega, fun H4 v2 d2 b4 bt4 hb4 hB4 dv2 sv2 => ?_⟩
        refine ⟨v, v2, d, d2, rfl, dp_same (Off.of bt4) dv, sv, dp_same (Off.of (But.refl bx H4)) dv2, sv2, fun H5 s5 => ?_⟩
        have bt : But bx H' H5 := (bt3.trans bt4).trans (But.of s5)
        refine ⟨_, bt _ _ nDb hD, by rw [List.length_map, List.length_replicate]; exact small1000 (by omega), ?_, ?_, b4, ?_, ?_⟩
        · refine Same.at_ (fun z o hz => bt _ _ (fun e => ?_) (sm _ _ hz)) nD2
          rw [e, nbx] at hz
          cases hz
        · rw [upd_same, List.replicate_succ', List.map_append]
          rfl
        · rw [upd_ne nDb.symm]
          exact s5 _ _ hb4
        · exact (show 4 * j + 2 + 2 = 4 * (j + 1) by omega) ▸ hB4
      · rintro H6 ⟨s6, hD, _⟩
        refine ⟨D, _, rfl, SqL.of hD, _, rfl, iteF ?_⟩
        exact ⟨_, _, rfl, s2.trans s6⟩
    · rintro σ H2 ⟨y2, y3, rfl, s2⟩
      refine ⟨by show 2 ≤ sizeLine; decide, fun l1 n1 => ⟨by show 2 ≤ sizeLine; decide, fun l2 n2 => ?_⟩⟩
      refine ⟨.ref l1, .ref l2, .list [.int 400, .int 120], rfl, .lst (SqL.of (same_upd n2 _ _ upd_same)) (.cons (.int _) (.cons (.int _) .nil)), .lst (SqL.of upd_same) (.cons (.int _) (.cons (.int _) .nil)), .lst 5 (by simp) (fun d hd => ?_), fun H5 _ => q H5⟩
      simp only [List.mem_cons, List.not_mem_nil, or_false] at hd
      rcases hd with rfl | rfl <;> exact .int _ _
end
section
variable {w : World} {K : PySem.W.Frag} {h : Heap} {mg : Str → Option Value}
theorem fun_dd {x : Str} {st : Stmt} {ps : List Str} {f : Addr} {oc : Value} {od an : Option Addr} {osl : Array (Option Value)} {kV doc pm cdv ct : Value} (X : K.In h) (G : h.Ns mainGlobals mg) (a : PySem.W.nsIn K mainGlobals x = some (some (.ref f)))
    (l : K.lookup f = some ⟨oc, od, .func (PySem.W.fnOf x x (defArgs st) (defBody st) (defScope st) .none kV doc pm an cdv ct), osl⟩) (c : PySem.W.codeIn K cdv x = true) (k : PySem.W.keepIn K (.ref f) = true)
    (hb : ∀ (kV doc pm : Value) (an : Option Addr) (cdv ct : Value) (us : List Value), us.length = ps.length → bindArgs (PySem.W.fnOf x x (defArgs st) (defBody st) (defScope st) .none kV doc pm an cdv ct) ⟨us, []⟩ = pure (ps.zip us)) : Dd K mg x st ps :=
  ⟨f, _, fun_mk (st := st) l c k, PySem.W.mg_of X G a, (fun_mk (st := st) l c k).binds hb⟩
theorem cls_some {D : Addr} (hd : PySem.W.hasDictIn K D = true) : (PySem.W.clsIn K D).isSome = true := by
  obtain ⟨cd, e1, _⟩ := PySem.W.any_some hd
  rw [e1]
  rfl
end
structure Ox5 (K : PySem.W.Frag) (mg : Str → Option Value) (C : Addr) (B : String) (bm : List Value) (x qual : Str) (st : Stmt) (ps : List Str) : Prop where
  ex : ∃ (f : Addr) (fd : FuncData), L2.Fun K "__init__" qual st f fd ∧ FunD K "__init__" qual (defArgs st) (defBody st) (defScope st) [] [] f fd ∧ Binds K fd ps [] ∧ PySem.W.findIn K (.ref C) "__init__" = some (some (.ref f)) ∧ PySem.W.typeIn K (.ref f) = some (.type "function")
  ox : OxC K C B
  mg : mg x = some (.ref C)
  lk : ∃ cd, PySem.W.clsIn K C = some cd ∧ cd.mro = .ref C :: bm
section
variable {w : World} {K : PySem.W.Frag} {h : Heap} {mg : Str → Option Value}
theorem fun_ox5 {x qual : Str} {st : Stmt} {ps : List Str} {B newId : String} {C f N : Addr} {oc : Value} {od an : Option Addr} {osl : Array (Option Value)} {kV doc pm cdv ct : Value} {nm q : Str} {bs bm : List Value} {sn : List Str} {sub : List Value} {ab : Bool} {col : Option Bool} {dd : Option Addr} {k0 k1 k2 k3 k5 : Option Value}
    (X : K.In h) (G : h.Ns mainGlobals mg) (a : PySem.W.nsIn K mainGlobals x = some (some (.ref C))) (lC : K.lookup C = some (excClassObj nm q C N bs bm true sn sub ab col dd k0 k1 k2 k3 k5 newId)) (Nw : PySem.Oxb.NewOk newId bm) (FB : PySem.Oxb.InitOk B bm) (M : PySem.Oxb.MroOk (.ref C :: bm))
    (sa : PySem.W.findIn K (.ref C) "__setattr__" = some (some (.builtin "object.__setattr__"))) (exC : PySem.W.subIn K (.ref C) (.type "BaseException") = some true) (tyC : PySem.W.typeIn K (.ref C) = some (.type "type")) (kC : PySem.W.keepIn K (.ref C) = true)
    (iC : PySem.W.findIn K (.ref C) "__init__" = some (some (.ref f))) (tI : PySem.W.typeIn K (.ref f) = some (.type "function"))
    (l : K.lookup f = some ⟨oc, od, .func (PySem.W.fnOf "__init__" qual (defArgs st) (defBody st) (defScope st) .none kV doc pm an cdv ct), osl⟩) (c : PySem.W.codeIn K cdv qual = true) (k : PySem.W.keepIn K (.ref f) = true)
    (hb : ∀ (kV doc pm : Value) (an : Option Addr) (cdv ct : Value) (us : List Value), us.length = ps.length → bindArgs (PySem.W.fnOf "__init__" qual (defArgs st) (defBody st) (defScope st) .none kV doc pm an cdv ct) ⟨us, []⟩ = pure (ps.zip us)) : Ox5 K mg C B bm x qual st ps where
  ex := ⟨f, _, fun_mk (st := st) l c k, ⟨⟨_, _, _, _, _, _, _, _, _, _, rfl, l, c, .inl ⟨rfl, rfl⟩, .inl rfl⟩, k⟩, (fun_mk (st := st) l c k).binds hb, iC, tI⟩
  ox := ⟨⟨nm, q, N, bs, bm, sn, sub, ab, col, dd, k0, k1, k2, k3, k5, newId, lC, Nw, FB, M⟩, sa, exC, tyC, kC⟩
  mg := PySem.W.mg_of X G a
  lk := by
    unfold PySem.W.clsIn
    rw [lC]
    exact ⟨_, rfl, rfl⟩
theorem kit_ty5 {C : Addr} {bm : List Value} {T : String} (m : PySem.W.kitMeta T = true) (lk : ∃ cd, PySem.W.clsIn K C = some cd ∧ cd.mro = .ref C :: bm) : PySem.W.kitOne K (.ref C) (.type T) = some (bm.contains (.type T)) := by
  obtain ⟨cd, h1, h2⟩ := lk
  have n : (Value.ref C == Value.type T) = false := rfl
  unfold PySem.W.kitOne
  rw [n]
  show (if PySem.W.kitMeta T = true then PySem.W.mroIn K C (.type T) else none) = _
  rw [if_pos m]
  unfold PySem.W.mroIn
  rw [h1]
  show (if cd.mro.isEmpty = true then none else some (cd.mro.contains (.type T))) = _
  rw [h2]
  rfl
theorem kit_ref5 {C D : Addr} {bm : List Value} (nD : bm.contains (.ref D) = false) (hD : (PySem.W.clsIn K D).isSome = true) (tD : PySem.W.typeIn K (.ref D) = some (.type "type")) (lk : ∃ cd, PySem.W.clsIn K C = some cd ∧ cd.mro = .ref C :: bm) : PySem.W.kitOne K (.ref C) (.ref D) = some (decide (C = D)) := by
  obtain ⟨cd, h1, h2⟩ := lk
  unfold PySem.W.kitOne
  by_cases e : C = D
  · subst e
    have n : (Value.ref C == Value.ref C) = true := by simp
    rw [n, if_pos rfl, decide_eq_true rfl]
  · have n : (Value.ref C == Value.ref D) = false := by
      rw [beq_eq_false_iff_ne]
      intro z
      exact e (Value.ref.inj z)
    have n2 : (Value.ref D == Value.ref C) = false := by
      rw [beq_eq_false_iff_ne]
      intro z
      exact e (Value.ref.inj z).symm
    rw [n, if_neg (by decide), decide_eq_false e]
    show (if ((PySem.W.clsIn K D).isSome && PySem.W.typeIn K (.ref D) == some (.type "type")) = true then PySem.W.mroIn K C (.ref D) else none) = _
    rw [hD, tD, if_pos (by simp)]
    unfold PySem.W.mroIn
    rw [h1]
    show (if cd.mro.isEmpty = true then none else some (cd.mro.contains (.ref D))) = _
    rw [h2]
    show some ((Value.ref C :: bm).contains (.ref D)) = _
    rw [List.contains_cons, n2, nD]
    rfl
end
def ca (C0 C1 C2 C3 C4 C5 C6 C7 C8 C9 C10 C11 C12 C13 C14 C15 C16 C17 : Addr) : Nat → Addr
  | 0 => C0
  | 1 => C1
  | 2 => C2
  | 3 => C3
  | 4 => C4
  | 5 => C5
  | 6 => C6
  | 7 => C7
  | 8 => C8
  | 9 => C9
  | 10 => C10
  | 11 => C11
  | 12 => C12
  | 13 => C13
  | 14 => C14
  | 15 => C15
  | 16 => C16
  | 17 => C17
  | _ => C0
section
variable {P : Program} {w : World} {K : PySem.W.Frag} {mg : Str → Option Value} {base : Heap} {C : Addr}
theorem mk_BadGrammar (cown_copy : C8.Cal P w K mg base 5 "own_copy" (spOwnD K 4) []) (N : Ox5 K mg C "ValueError" [.type "ValueError", .type "Exception", .type "BaseException", .type "object"] "BadGrammar" "BadGrammar.__init__" s_BadGrammar N_BadGrammar) (b : BInit K "ValueError") (mV : mg "ValueError" = none) (h1 : PySem.W.findIn K (.ref C) "part" = some none) (h2 : PySem.W.findIn K (.ref C) "row" = some none) :
    MkC P w K mg base 6 "BadGrammar" C (spTwoD K C "part" "row" 4) ∧ MkK P w K mg base 6 "BadGrammar" C (spTwoD K C "part" "row" 4) ["row", "part"] (fun vs zs => vs ++ zs.reverse) := by
  obtain ⟨f, fd, F, FD, B, iC, tI⟩ := N.ex
  have ok := ok_BadGrammar cown_copy F N.ox b mV h1 h2
  exact ⟨⟨_, f, fd, _, N.ox, iC, tI, ok, B, N.mg⟩, ⟨_, f, fd, _, _, N.ox, iC, tI, ok, kbindsN FD 1 ["row", "part"] (fun vs zs => vs ++ zs.reverse) (fun r1 r2 => r1.append r2.reverse) (fun _ _ _ _ _ _ us ws l1 l2 => match us, ws, l1, l2 with | [_], [_, _], _, _ => rfl), N.mg⟩⟩
theorem mk_BadRow (cown_copy : C8.Cal P w K mg base 5 "own_copy" (spOwnD K 4) []) (N : Ox5 K mg C "ValueError" [.type "ValueError", .type "Exception", .type "BaseException", .type "object"] "BadRow" "BadRow.__init__" s_BadRow N_BadRow) (b : BInit K "ValueError") (mV : mg "ValueError" = none) (h1 : PySem.W.findIn K (.ref C) "row" = some none) :
    MkC P w K mg base 6 "BadRow" C (spOneD K C "row" 4) ∧ MkK P w K mg base 6 "BadRow" C (spOneD K C "row" 4) ["row"] (fun vs zs => vs ++ zs) := by
  obtain ⟨f, fd, F, FD, B, iC, tI⟩ := N.ex
  have ok := ok_BadRow cown_copy F N.ox b mV h1
  exact ⟨⟨_, f, fd, _, N.ox, iC, tI, ok, B, N.mg⟩, ⟨_, f, fd, _, _, N.ox, iC, tI, ok, kbindsN FD 1 ["row"] (fun vs zs => vs ++ zs) (fun r1 r2 => r1.append r2) (fun _ _ _ _ _ _ us ws l1 l2 => match us, ws, l1, l2 with | [_], [_], _, _ => rfl), N.mg⟩⟩
theorem mk_BadText (cown_copy : C8.Cal P w K mg base 5 "own_copy" (spOwnD K 4) []) (N : Ox5 K mg C "ValueError" [.type "ValueError", .type "Exception", .type "BaseException", .type "object"] "BadText" "BadText.__init__" s_BadText N_BadText) (b : BInit K "ValueError") (mV : mg "ValueError" = none) (h1 : PySem.W.findIn K (.ref C) "at" = some none) :
    MkC P w K mg base 6 "BadText" C (spOneD K C "at" 4) ∧ MkK P w K mg base 6 "BadText" C (spOneD K C "at" 4) ["at"] (fun vs zs => vs ++ zs) := by
  obtain ⟨f, fd, F, FD, B, iC, tI⟩ := N.ex
  have ok := ok_BadText cown_copy F N.ox b mV h1
  exact ⟨⟨_, f, fd, _, N.ox, iC, tI, ok, B, N.mg⟩, ⟨_, f, fd, _, _, N.ox, iC, tI, ok, kbindsN FD 1 ["at"] (fun vs zs => vs ++ zs) (fun r1 r2 => r1.append r2) (fun _ _ _ _ _ _ us ws l1 l2 => match us, ws, l1, l2 with | [_], [_], _, _ => rfl), N.mg⟩⟩
theorem mk_NoTree (cown_copy : C8.Cal P w K mg base 5 "own_copy" (spOwnD K 4) []) (N : Ox5 K mg C "ValueError" [.type "ValueError", .type "Exception", .type "BaseException", .type "object"] "NoTree" "NoTree.__init__" s_NoTree N_NoTree) (b : BInit K "ValueError") (mV : mg "ValueError" = none) (h1 : PySem.W.findIn K (.ref C) "thing" = some none) :
    MkC P w K mg base 6 "NoTree" C (spOneD K C "thing" 4) ∧ MkK P w K mg base 6 "NoTree" C (spOneD K C "thing" 4) ["thing"] (fun vs zs => vs ++ zs) := by
  obtain ⟨f, fd, F, FD, B, iC, tI⟩ := N.ex
  have ok := ok_NoTree cown_copy F N.ox b mV h1
  exact ⟨⟨_, f, fd, _, N.ox, iC, tI, ok, B, N.mg⟩, ⟨_, f, fd, _, _, N.ox, iC, tI, ok, kbindsN FD 1 ["thing"] (fun vs zs => vs ++ zs) (fun r1 r2 => r1.append r2) (fun _ _ _ _ _ _ us ws l1 l2 => match us, ws, l1, l2 with | [_], [_], _, _ => rfl), N.mg⟩⟩
theorem mk_NoGiven (cown_copy : C8.Cal P w K mg base 5 "own_copy" (spOwnD K 4) []) (N : Ox5 K mg C "ValueError" [.type "ValueError", .type "Exception", .type "BaseException", .type "object"] "NoGiven" "NoGiven.__init__" s_NoGiven N_NoGiven) (b : BInit K "ValueError") (mV : mg "ValueError" = none) (h1 : PySem.W.findIn K (.ref C) "thing" = some none) :
    MkC P w K mg base 6 "NoGiven" C (spOneD K C "thing" 4) ∧ MkK P w K mg base 6 "NoGiven" C (spOneD K C "thing" 4) ["thing"] (fun vs zs => vs ++ zs) := by
  obtain ⟨f, fd, F, FD, B, iC, tI⟩ := N.ex
  have ok := ok_NoGiven cown_copy F N.ox b mV h1
  exact ⟨⟨_, f, fd, _, N.ox, iC, tI, ok, B, N.mg⟩, ⟨_, f, fd, _, _, N.ox, iC, tI, ok, kbindsN FD 1 ["thing"] (fun vs zs => vs ++ zs) (fun r1 r2 => r1.append r2) (fun _ _ _ _ _ _ us ws l1 l2 => match us, ws, l1, l2 with | [_], [_], _, _ => rfl), N.mg⟩⟩
theorem mk_NotLet (cown_copy : C8.Cal P w K mg base 5 "own_copy" (spOwnD K 4) []) (N : Ox5 K mg C "ValueError" [.type "ValueError", .type "Exception", .type "BaseException", .type "object"] "NotLet" "NotLet.__init__" s_NotLet N_NotLet) (b : BInit K "ValueError") (mV : mg "ValueError" = none) (h1 : PySem.W.findIn K (.ref C) "op" = some none) (h2 : PySem.W.findIn K (.ref C) "under" = some none) :
    MkC P w K mg base 6 "NotLet" C (spTwoD K C "op" "under" 4) ∧ MkK P w K mg base 6 "NotLet" C (spTwoD K C "op" "under" 4) ["under", "op"] (fun vs zs => vs ++ zs.reverse) := by
  obtain ⟨f, fd, F, FD, B, iC, tI⟩ := N.ex
  have ok := ok_NotLet cown_copy F N.ox b mV h1 h2
  exact ⟨⟨_, f, fd, _, N.ox, iC, tI, ok, B, N.mg⟩, ⟨_, f, fd, _, _, N.ox, iC, tI, ok, kbindsN FD 1 ["under", "op"] (fun vs zs => vs ++ zs.reverse) (fun r1 r2 => r1.append r2.reverse) (fun _ _ _ _ _ _ us ws l1 l2 => match us, ws, l1, l2 with | [_], [_, _], _, _ => rfl), N.mg⟩⟩
theorem mk_NoCap (cown_copy : C8.Cal P w K mg base 5 "own_copy" (spOwnD K 4) []) (N : Ox5 K mg C "ValueError" [.type "ValueError", .type "Exception", .type "BaseException", .type "object"] "NoCap" "NoCap.__init__" s_NoCap N_NoCap) (b : BInit K "ValueError") (mV : mg "ValueError" = none) (h1 : PySem.W.findIn K (.ref C) "under" = some none) :
    MkC P w K mg base 6 "NoCap" C (spOneD K C "under" 4) ∧ MkK P w K mg base 6 "NoCap" C (spOneD K C "under" 4) ["under"] (fun vs zs => vs ++ zs) := by
  obtain ⟨f, fd, F, FD, B, iC, tI⟩ := N.ex
  have ok := ok_NoCap cown_copy F N.ox b mV h1
  exact ⟨⟨_, f, fd, _, N.ox, iC, tI, ok, B, N.mg⟩, ⟨_, f, fd, _, _, N.ox, iC, tI, ok, kbindsN FD 1 ["under"] (fun vs zs => vs ++ zs) (fun r1 r2 => r1.append r2) (fun _ _ _ _ _ _ us ws l1 l2 => match us, ws, l1, l2 with | [_], [_], _, _ => rfl), N.mg⟩⟩
theorem mk_NoName (cown_copy : C8.Cal P w K mg base 5 "own_copy" (spOwnD K 4) []) (N : Ox5 K mg C "KeyError" [.type "KeyError", .type "LookupError", .type "Exception", .type "BaseException", .type "object"] "NoName" "NoName.__init__" s_NoName N_NoName) (b : BInit K "KeyError") (mV : mg "KeyError" = none) (h1 : PySem.W.findIn K (.ref C) "name" = some none) :
    MkC P w K mg base 6 "NoName" C (spOneD K C "name" 4) ∧ MkK P w K mg base 6 "NoName" C (spOneD K C "name" 4) ["name"] (fun vs zs => vs ++ zs) := by
  obtain ⟨f, fd, F, FD, B, iC, tI⟩ := N.ex
  have ok := ok_NoName cown_copy F N.ox b mV h1
  exact ⟨⟨_, f, fd, _, N.ox, iC, tI, ok, B, N.mg⟩, ⟨_, f, fd, _, _, N.ox, iC, tI, ok, kbindsN FD 1 ["name"] (fun vs zs => vs ++ zs) (fun r1 r2 => r1.append r2) (fun _ _ _ _ _ _ us ws l1 l2 => match us, ws, l1, l2 with | [_], [_], _, _ => rfl), N.mg⟩⟩
theorem mk_NoOp (cown_copy : C8.Cal P w K mg base 5 "own_copy" (spOwnD K 4) []) (N : Ox5 K mg C "KeyError" [.type "KeyError", .type "LookupError", .type "Exception", .type "BaseException", .type "object"] "NoOp" "NoOp.__init__" s_NoOp N_NoOp) (b : BInit K "KeyError") (mV : mg "KeyError" = none) (h1 : PySem.W.findIn K (.ref C) "op" = some none) :
    MkC P w K mg base 6 "NoOp" C (spOneD K C "op" 4) ∧ MkK P w K mg base 6 "NoOp" C (spOneD K C "op" 4) ["op"] (fun vs zs => vs ++ zs) := by
  obtain ⟨f, fd, F, FD, B, iC, tI⟩ := N.ex
  have ok := ok_NoOp cown_copy F N.ox b mV h1
  exact ⟨⟨_, f, fd, _, N.ox, iC, tI, ok, B, N.mg⟩, ⟨_, f, fd, _, _, N.ox, iC, tI, ok, kbindsN FD 1 ["op"] (fun vs zs => vs ++ zs) (fun r1 r2 => r1.append r2) (fun _ _ _ _ _ _ us ws l1 l2 => match us, ws, l1, l2 with | [_], [_], _, _ => rfl), N.mg⟩⟩
theorem mk_NoRow (cown_copy : C8.Cal P w K mg base 5 "own_copy" (spOwnD K 4) []) (N : Ox5 K mg C "KeyError" [.type "KeyError", .type "LookupError", .type "Exception", .type "BaseException", .type "object"] "NoRow" "NoRow.__init__" s_NoRow N_NoRow) (b : BInit K "KeyError") (mV : mg "KeyError" = none) (h1 : PySem.W.findIn K (.ref C) "making" = some none) :
    MkC P w K mg base 6 "NoRow" C (spOneD K C "making" 4) ∧ MkK P w K mg base 6 "NoRow" C (spOneD K C "making" 4) ["making"] (fun vs zs => vs ++ zs) := by
  obtain ⟨f, fd, F, FD, B, iC, tI⟩ := N.ex
  have ok := ok_NoRow cown_copy F N.ox b mV h1
  exact ⟨⟨_, f, fd, _, N.ox, iC, tI, ok, B, N.mg⟩, ⟨_, f, fd, _, _, N.ox, iC, tI, ok, kbindsN FD 1 ["making"] (fun vs zs => vs ++ zs) (fun r1 r2 => r1.append r2) (fun _ _ _ _ _ _ us ws l1 l2 => match us, ws, l1, l2 with | [_], [_], _, _ => rfl), N.mg⟩⟩
theorem mk_NoSpot (cown_copy : C8.Cal P w K mg base 5 "own_copy" (spOwnD K 4) []) (N : Ox5 K mg C "LookupError" [.type "LookupError", .type "Exception", .type "BaseException", .type "object"] "NoSpot" "NoSpot.__init__" s_NoSpot N_NoSpot) (b : BInit K "LookupError") (mV : mg "LookupError" = none) (h1 : PySem.W.findIn K (.ref C) "spot" = some none) :
    MkC P w K mg base 6 "NoSpot" C (spOneD K C "spot" 4) ∧ MkK P w K mg base 6 "NoSpot" C (spOneD K C "spot" 4) ["spot"] (fun vs zs => vs ++ zs) := by
  obtain ⟨f, fd, F, FD, B, iC, tI⟩ := N.ex
  have ok := ok_NoSpot cown_copy F N.ox b mV h1
  exact ⟨⟨_, f, fd, _, N.ox, iC, tI, ok, B, N.mg⟩, ⟨_, f, fd, _, _, N.ox, iC, tI, ok, kbindsN FD 1 ["spot"] (fun vs zs => vs ++ zs) (fun r1 r2 => r1.append r2) (fun _ _ _ _ _ _ us ws l1 l2 => match us, ws, l1, l2 with | [_], [_], _, _ => rfl), N.mg⟩⟩
theorem mk_NoNode (cown_copy : C8.Cal P w K mg base 5 "own_copy" (spOwnD K 4) []) (N : Ox5 K mg C "IndexError" [.type "IndexError", .type "LookupError", .type "Exception", .type "BaseException", .type "object"] "NoNode" "NoNode.__init__" s_NoNode N_NoNode) (b : BInit K "IndexError") (mV : mg "IndexError" = none) (h1 : PySem.W.findIn K (.ref C) "path" = some none) :
    MkC P w K mg base 6 "NoNode" C (spOneD K C "path" 4) ∧ MkK P w K mg base 6 "NoNode" C (spOneD K C "path" 4) ["path"] (fun vs zs => vs ++ zs) := by
  obtain ⟨f, fd, F, FD, B, iC, tI⟩ := N.ex
  have ok := ok_NoNode cown_copy F N.ox b mV h1
  exact ⟨⟨_, f, fd, _, N.ox, iC, tI, ok, B, N.mg⟩, ⟨_, f, fd, _, _, N.ox, iC, tI, ok, kbindsN FD 1 ["path"] (fun vs zs => vs ++ zs) (fun r1 r2 => r1.append r2) (fun _ _ _ _ _ _ us ws l1 l2 => match us, ws, l1, l2 with | [_], [_], _, _ => rfl), N.mg⟩⟩
theorem mk_Ring (cown_copy : C8.Cal P w K mg base 5 "own_copy" (spOwnD K 4) []) (N : Ox5 K mg C "RuntimeError" [.type "RuntimeError", .type "Exception", .type "BaseException", .type "object"] "Ring" "Ring.__init__" s_Ring N_Ring) (b : BInit K "RuntimeError") (mV : mg "RuntimeError" = none) (h1 : PySem.W.findIn K (.ref C) "ring" = some none) :
    MkC P w K mg base 6 "Ring" C (spOneD K C "ring" 4) ∧ MkK P w K mg base 6 "Ring" C (spOneD K C "ring" 4) ["ring"] (fun vs zs => vs ++ zs) := by
  obtain ⟨f, fd, F, FD, B, iC, tI⟩ := N.ex
  have ok := ok_Ring cown_copy F N.ox b mV h1
  exact ⟨⟨_, f, fd, _, N.ox, iC, tI, ok, B, N.mg⟩, ⟨_, f, fd, _, _, N.ox, iC, tI, ok, kbindsN FD 1 ["ring"] (fun vs zs => vs ++ zs) (fun r1 r2 => r1.append r2) (fun _ _ _ _ _ _ us ws l1 l2 => match us, ws, l1, l2 with | [_], [_], _, _ => rfl), N.mg⟩⟩
theorem mk_Ringed (cown_copy : C8.Cal P w K mg base 5 "own_copy" (spOwnD K 4) []) (N : Ox5 K mg C "RuntimeError" [.type "RuntimeError", .type "Exception", .type "BaseException", .type "object"] "Ringed" "Ringed.__init__" s_Ringed N_Ringed) (b : BInit K "RuntimeError") (mV : mg "RuntimeError" = none) (h1 : PySem.W.findIn K (.ref C) "least" = some none) (h2 : PySem.W.findIn K (.ref C) "ring" = some none) :
    MkC P w K mg base 6 "Ringed" C (spTwoD K C "least" "ring" 4) ∧ MkK P w K mg base 6 "Ringed" C (spTwoD K C "least" "ring" 4) ["ring", "least"] (fun vs zs => vs ++ zs.reverse) := by
  obtain ⟨f, fd, F, FD, B, iC, tI⟩ := N.ex
  have ok := ok_Ringed cown_copy F N.ox b mV h1 h2
  exact ⟨⟨_, f, fd, _, N.ox, iC, tI, ok, B, N.mg⟩, ⟨_, f, fd, _, _, N.ox, iC, tI, ok, kbindsN FD 1 ["ring", "least"] (fun vs zs => vs ++ zs.reverse) (fun r1 r2 => r1.append r2.reverse) (fun _ _ _ _ _ _ us ws l1 l2 => match us, ws, l1, l2 with | [_], [_, _], _, _ => rfl), N.mg⟩⟩
theorem mk_Clash (cown_copy : C8.Cal P w K mg base 5 "own_copy" (spOwnD K 4) []) (N : Ox5 K mg C "RuntimeError" [.type "RuntimeError", .type "Exception", .type "BaseException", .type "object"] "Clash" "Clash.__init__" s_Clash N_Clash) (b : BInit K "RuntimeError") (mV : mg "RuntimeError" = none) (h1 : PySem.W.findIn K (.ref C) "clash" = some none) :
    MkC P w K mg base 6 "Clash" C (spOneD K C "clash" 4) ∧ MkK P w K mg base 6 "Clash" C (spOneD K C "clash" 4) ["clash"] (fun vs zs => vs ++ zs) := by
  obtain ⟨f, fd, F, FD, B, iC, tI⟩ := N.ex
  have ok := ok_Clash cown_copy F N.ox b mV h1
  exact ⟨⟨_, f, fd, _, N.ox, iC, tI, ok, B, N.mg⟩, ⟨_, f, fd, _, _, N.ox, iC, tI, ok, kbindsN FD 1 ["clash"] (fun vs zs => vs ++ zs) (fun r1 r2 => r1.append r2) (fun _ _ _ _ _ _ us ws l1 l2 => match us, ws, l1, l2 with | [_], [_], _, _ => rfl), N.mg⟩⟩
theorem mk_Taken (cown_copy : C8.Cal P w K mg base 5 "own_copy" (spOwnD K 4) []) (N : Ox5 K mg C "RuntimeError" [.type "RuntimeError", .type "Exception", .type "BaseException", .type "object"] "Taken" "Taken.__init__" s_Taken N_Taken) (b : BInit K "RuntimeError") (mV : mg "RuntimeError" = none) (h1 : PySem.W.findIn K (.ref C) "name" = some none) :
    MkC P w K mg base 6 "Taken" C (spOneD K C "name" 4) ∧ MkK P w K mg base 6 "Taken" C (spOneD K C "name" 4) ["name"] (fun vs zs => vs ++ zs) := by
  obtain ⟨f, fd, F, FD, B, iC, tI⟩ := N.ex
  have ok := ok_Taken cown_copy F N.ox b mV h1
  exact ⟨⟨_, f, fd, _, N.ox, iC, tI, ok, B, N.mg⟩, ⟨_, f, fd, _, _, N.ox, iC, tI, ok, kbindsN FD 1 ["name"] (fun vs zs => vs ++ zs) (fun r1 r2 => r1.append r2) (fun _ _ _ _ _ _ us ws l1 l2 => match us, ws, l1, l2 with | [_], [_], _, _ => rfl), N.mg⟩⟩
theorem mk_Lacks (cown_copy : C8.Cal P w K mg base 5 "own_copy" (spOwnD K 4) []) (N : Ox5 K mg C "ArithmeticError" [.type "ArithmeticError", .type "Exception", .type "BaseException", .type "object"] "Lacks" "Lacks.__init__" s_Lacks N_Lacks) (b : BInit K "ArithmeticError") (mV : mg "ArithmeticError" = none) (h1 : PySem.W.findIn K (.ref C) "spots" = some none) :
    MkC P w K mg base 6 "Lacks" C (spOneD K C "spots" 4) ∧ MkK P w K mg base 6 "Lacks" C (spOneD K C "spots" 4) ["spots"] (fun vs zs => vs ++ zs) := by
  obtain ⟨f, fd, F, FD, B, iC, tI⟩ := N.ex
  have ok := ok_Lacks cown_copy F N.ox b mV h1
  exact ⟨⟨_, f, fd, _, N.ox, iC, tI, ok, B, N.mg⟩, ⟨_, f, fd, _, _, N.ox, iC, tI, ok, kbindsN FD 1 ["spots"] (fun vs zs => vs ++ zs) (fun r1 r2 => r1.append r2) (fun _ _ _ _ _ _ us ws l1 l2 => match us, ws, l1, l2 with | [_], [_], _, _ => rfl), N.mg⟩⟩
theorem mk_TooMuch (cown_copy : C8.Cal P w K mg base 5 "own_copy" (spOwnD K 4) []) (N : Ox5 K mg C "OverflowError" [.type "OverflowError", .type "ArithmeticError", .type "Exception", .type "BaseException", .type "object"] "TooMuch" "TooMuch.__init__" s_TooMuch N_TooMuch) (b : BInit K "OverflowError") (mV : mg "OverflowError" = none) (h1 : PySem.W.findIn K (.ref C) "many" = some none) :
    MkC P w K mg base 6 "TooMuch" C (spOneD K C "many" 4) ∧ MkK P w K mg base 6 "TooMuch" C (spOneD K C "many" 4) ["many"] (fun vs zs => vs ++ zs) := by
  obtain ⟨f, fd, F, FD, B, iC, tI⟩ := N.ex
  have ok := ok_TooMuch cown_copy F N.ox b mV h1
  exact ⟨⟨_, f, fd, _, N.ox, iC, tI, ok, B, N.mg⟩, ⟨_, f, fd, _, _, N.ox, iC, tI, ok, kbindsN FD 1 ["many"] (fun vs zs => vs ++ zs) (fun r1 r2 => r1.append r2) (fun _ _ _ _ _ _ us ws l1 l2 => match us, ws, l1, l2 with | [_], [_], _, _ => rfl), N.mg⟩⟩
end
theorem all_mk {l : PySem.W.OpenLaw} {w : World} {K : PySem.W.Frag} {h : Heap} {mg : Str → Option Value} {fa C0 C1 C2 C3 C4 C5 C6 C7 C8 C9 C10 C11 C12 C13 C14 C15 C16 C17 f4 : Addr} (X : K.In h) (G : h.Ns mainGlobals mg) (hfa : mg "law" = some (.ref fa))
    (N0 : Ox5 K mg C0 "ValueError" [.type "ValueError", .type "Exception", .type "BaseException", .type "object"] "BadGrammar" "BadGrammar.__init__" s_BadGrammar N_BadGrammar) (V0 : XvC K C0) (g0 : PySem.W.findIn K (.ref C0) "part" = some none) (h0 : PySem.W.findIn K (.ref C0) "row" = some none)
    (N1 : Ox5 K mg C1 "ValueError" [.type "ValueError", .type "Exception", .type "BaseException", .type "object"] "BadRow" "BadRow.__init__" s_BadRow N_BadRow) (V1 : XvC K C1) (g1 : PySem.W.findIn K (.ref C1) "row" = some none)
    (N2 : Ox5 K mg C2 "ValueError" [.type "ValueError", .type "Exception", .type "BaseException", .type "object"] "BadText" "BadText.__init__" s_BadText N_BadText) (V2 : XvC K C2) (g2 : PySem.W.findIn K (.ref C2) "at" = some none)
    (N3 : Ox5 K mg C3 "ValueError" [.type "ValueError", .type "Exception", .type "BaseException", .type "object"] "NoTree" "NoTree.__init__" s_NoTree N_NoTree) (V3 : XvC K C3) (g3 : PySem.W.findIn K (.ref C3) "thing" = some none)
    (N4 : Ox5 K mg C4 "ValueError" [.type "ValueError", .type "Exception", .type "BaseException", .type "object"] "NoGiven" "NoGiven.__init__" s_NoGiven N_NoGiven) (V4 : XvC K C4) (g4 : PySem.W.findIn K (.ref C4) "thing" = some none)
    (N5 : Ox5 K mg C5 "ValueError" [.type "ValueError", .type "Exception", .type "BaseException", .type "object"] "NotLet" "NotLet.__init__" s_NotLet N_NotLet) (V5 : XvC K C5) (g5 : PySem.W.findIn K (.ref C5) "op" = some none) (h5 : PySem.W.findIn K (.ref C5) "under" = some none)
    (N6 : Ox5 K mg C6 "ValueError" [.type "ValueError", .type "Exception", .type "BaseException", .type "object"] "NoCap" "NoCap.__init__" s_NoCap N_NoCap) (V6 : XvC K C6) (g6 : PySem.W.findIn K (.ref C6) "under" = some none)
    (N7 : Ox5 K mg C7 "KeyError" [.type "KeyError", .type "LookupError", .type "Exception", .type "BaseException", .type "object"] "NoName" "NoName.__init__" s_NoName N_NoName) (V7 : XvC K C7) (g7 : PySem.W.findIn K (.ref C7) "name" = some none)
    (N8 : Ox5 K mg C8 "KeyError" [.type "KeyError", .type "LookupError", .type "Exception", .type "BaseException", .type "object"] "NoOp" "NoOp.__init__" s_NoOp N_NoOp) (V8 : XvC K C8) (g8 : PySem.W.findIn K (.ref C8) "op" = some none)
    (N9 : Ox5 K mg C9 "KeyError" [.type "KeyError", .type "LookupError", .type "Exception", .type "BaseException", .type "object"] "NoRow" "NoRow.__init__" s_NoRow N_NoRow) (V9 : XvC K C9) (g9 : PySem.W.findIn K (.ref C9) "making" = some none)
    (N10 : Ox5 K mg C10 "LookupError" [.type "LookupError", .type "Exception", .type "BaseException", .type "object"] "NoSpot" "NoSpot.__init__" s_NoSpot N_NoSpot) (V10 : XvC K C10) (g10 : PySem.W.findIn K (.ref C10) "spot" = some none)
    (N11 : Ox5 K mg C11 "IndexError" [.type "IndexError", .type "LookupError", .type "Exception", .type "BaseException", .type "object"] "NoNode" "NoNode.__init__" s_NoNode N_NoNode) (V11 : XvC K C11) (g11 : PySem.W.findIn K (.ref C11) "path" = some none)
    (N12 : Ox5 K mg C12 "RuntimeError" [.type "RuntimeError", .type "Exception", .type "BaseException", .type "object"] "Ring" "Ring.__init__" s_Ring N_Ring) (V12 : XvC K C12) (g12 : PySem.W.findIn K (.ref C12) "ring" = some none)
    (N13 : Ox5 K mg C13 "RuntimeError" [.type "RuntimeError", .type "Exception", .type "BaseException", .type "object"] "Ringed" "Ringed.__init__" s_Ringed N_Ringed) (V13 : XvC K C13) (g13 : PySem.W.findIn K (.ref C13) "least" = some none) (h13 : PySem.W.findIn K (.ref C13) "ring" = some none)
    (N14 : Ox5 K mg C14 "RuntimeError" [.type "RuntimeError", .type "Exception", .type "BaseException", .type "object"] "Clash" "Clash.__init__" s_Clash N_Clash) (V14 : XvC K C14) (g14 : PySem.W.findIn K (.ref C14) "clash" = some none)
    (N15 : Ox5 K mg C15 "RuntimeError" [.type "RuntimeError", .type "Exception", .type "BaseException", .type "object"] "Taken" "Taken.__init__" s_Taken N_Taken) (V15 : XvC K C15) (g15 : PySem.W.findIn K (.ref C15) "name" = some none)
    (N16 : Ox5 K mg C16 "ArithmeticError" [.type "ArithmeticError", .type "Exception", .type "BaseException", .type "object"] "Lacks" "Lacks.__init__" s_Lacks N_Lacks) (V16 : XvC K C16) (g16 : PySem.W.findIn K (.ref C16) "spots" = some none)
    (N17 : Ox5 K mg C17 "OverflowError" [.type "OverflowError", .type "ArithmeticError", .type "Exception", .type "BaseException", .type "object"] "TooMuch" "TooMuch.__init__" s_TooMuch N_TooMuch) (V17 : XvC K C17) (g17 : PySem.W.findIn K (.ref C17) "many" = some none)
    (b0 : PySem.W.findCls K (.type "ValueError") (.type "type") "__init__" = some (.val (.builtin "ValueError.__init__"))) (y0 : PySem.W.nsIn K mainGlobals "ValueError" = some none)
    (b1 : PySem.W.findCls K (.type "KeyError") (.type "type") "__init__" = some (.val (.builtin "KeyError.__init__"))) (y1 : PySem.W.nsIn K mainGlobals "KeyError" = some none)
    (b2 : PySem.W.findCls K (.type "LookupError") (.type "type") "__init__" = some (.val (.builtin "LookupError.__init__"))) (y2 : PySem.W.nsIn K mainGlobals "LookupError" = some none)
    (b3 : PySem.W.findCls K (.type "IndexError") (.type "type") "__init__" = some (.val (.builtin "IndexError.__init__"))) (y3 : PySem.W.nsIn K mainGlobals "IndexError" = some none)
    (b4 : PySem.W.findCls K (.type "RuntimeError") (.type "type") "__init__" = some (.val (.builtin "RuntimeError.__init__"))) (y4 : PySem.W.nsIn K mainGlobals "RuntimeError" = some none)
    (b5 : PySem.W.findCls K (.type "ArithmeticError") (.type "type") "__init__" = some (.val (.builtin "ArithmeticError.__init__"))) (y5 : PySem.W.nsIn K mainGlobals "ArithmeticError" = some none)
    (b6 : PySem.W.findCls K (.type "OverflowError") (.type "type") "__init__" = some (.val (.builtin "OverflowError.__init__"))) (y6 : PySem.W.nsIn K mainGlobals "OverflowError" = some none)
    (z0 : PySem.W.nsIn K mainGlobals "len" = some none) (z1 : PySem.W.nsIn K mainGlobals "abs" = some none) (z2 : PySem.W.nsIn K mainGlobals "int" = some none) (z3 : PySem.W.nsIn K mainGlobals "list" = some none) (z4 : PySem.W.nsIn K mainGlobals "enumerate" = some none) (z5 : PySem.W.nsIn K mainGlobals "range" = some none) (z6 : PySem.W.nsIn K mainGlobals "isinstance" = some none) (z7 : PySem.W.nsIn K mainGlobals "bool" = some none) (z8 : PySem.W.nsIn K mainGlobals "all" = some none) (z9 : PySem.W.nsIn K mainGlobals "zip" = some none) (z10 : PySem.W.nsIn K mainGlobals "tuple" = some none) (z11 : PySem.W.nsIn K mainGlobals "str" = some none)
    {tL tR : Tok} (aL : PySem.W.nsIn K mainGlobals "LIMIT" = some (some (.int 400 tL))) (aR : PySem.W.nsIn K mainGlobals "ROUNDS" = some (some (.int 120 tR)))
    (D0 : Dd K mg "own_copy" s_own_copy P_own_copy) (D1 : Dd K mg "_law_take" s__law_take P__law_take) (D2 : Dd K mg "_law_dip" s__law_dip P__law_dip) (D3 : Dd K mg "_law_folded" s__law_folded P__law_folded) (D4 : Dd K mg "_law_same" s__law_same P__law_same) (D5 : Dd K mg "_law_own" s__law_own P__law_own) (D6 : Dd K mg "_law_over" s__law_over P__law_over) (D7 : Dd K mg "_law_made" s__law_made P__law_made) (D8 : Dd K mg "_law_called" s__law_called P__law_called) (D9 : Dd K mg "_law_fields" s__law_fields P__law_fields) (D10 : Dd K mg "_law_thing" s__law_thing P__law_thing) (D11 : Dd K mg "_law_right" s__law_right P__law_right)
    {od4 an4 : Option Addr} {sl4 : Array (Option Value)} {oc4 kV4 dc4 pm4 cd4 ct4 : Value}
    (a4 : PySem.W.nsIn K mainGlobals "law" = some (some (.ref f4))) (l4 : K.lookup f4 = some ⟨oc4, od4, .func (PySem.W.fnOf "law" "law" (defArgs s_law) (defBody s_law) (defScope s_law) .none kV4 dc4 pm4 an4 cd4 ct4), sl4⟩) (c4 : PySem.W.codeIn K cd4 "law" = true) (k4 : PySem.W.keepIn K (.ref f4) = true)
    (dist : ∀ i, i < 18 → ∀ k, k < 18 → ca C0 C1 C2 C3 C4 C5 C6 C7 C8 C9 C10 C11 C12 C13 C14 C15 C16 C17 i = ca C0 C1 C2 C3 C4 C5 C6 C7 C8 C9 C10 C11 C12 C13 C14 C15 C16 C17 k → i = k) :
    ∃ fd : FuncData, (∀ (s : Shared) (v : Value), BindsTo s fd ⟨[v], []⟩ [("_law_script", v)]) ∧ ∀ base : Heap, K.In base → base.Ns mainGlobals mg → FnOk l.prog w K mg base CX0 10 fa fd ["_law_script"] (spLaw K) := by
  have e := hfa.symm.trans (PySem.W.mg_of X G a4)
  cases e
  have F4 := fun_mk (st := s_law) l4 c4 k4
  have m0 := PySem.W.mg_none_of X G z0
  have m1 := PySem.W.mg_none_of X G z1
  have m2 := PySem.W.mg_none_of X G z2
  have m3 := PySem.W.mg_none_of X G z3
  have m4 := PySem.W.mg_none_of X G z4
  have m5 := PySem.W.mg_none_of X G z5
  have m6 := PySem.W.mg_none_of X G z6
  have m7 := PySem.W.mg_none_of X G z7
  have m8 := PySem.W.mg_none_of X G z8
  have m9 := PySem.W.mg_none_of X G z9
  have m10 := PySem.W.mg_none_of X G z10
  have m11 := PySem.W.mg_none_of X G z11
  have e0 := PySem.W.mg_none_of X G y0
  have B0 : BInit K "ValueError" := ⟨by decide +kernel, rfl, by decide +kernel, b0, rfl, by decide +kernel, by decide +kernel⟩
  have e1 := PySem.W.mg_none_of X G y1
  have B1 : BInit K "KeyError" := ⟨by decide +kernel, rfl, by decide +kernel, b1, rfl, by decide +kernel, by decide +kernel⟩
  have e2 := PySem.W.mg_none_of X G y2
  have B2 : BInit K "LookupError" := ⟨by decide +kernel, rfl, by decide +kernel, b2, rfl, by decide +kernel, by decide +kernel⟩
  have e3 := PySem.W.mg_none_of X G y3
  have B3 : BInit K "IndexError" := ⟨by decide +kernel, rfl, by decide +kernel, b3, rfl, by decide +kernel, by decide +kernel⟩
  have e4 := PySem.W.mg_none_of X G y4
  have B4 : BInit K "RuntimeError" := ⟨by decide +kernel, rfl, by decide +kernel, b4, rfl, by decide +kernel, by decide +kernel⟩
  have e5 := PySem.W.mg_none_of X G y5
  have B5 : BInit K "ArithmeticError" := ⟨by decide +kernel, rfl, by decide +kernel, b5, rfl, by decide +kernel, by decide +kernel⟩
  have e6 := PySem.W.mg_none_of X G y6
  have B6 : BInit K "OverflowError" := ⟨by decide +kernel, rfl, by decide +kernel, b6, rfl, by decide +kernel, by decide +kernel⟩
  have TB : Bt mg := ⟨m0, m1, m2, m3, m4, m5⟩
  have TO : Ot mg := ⟨m6, m3, m10⟩
  have TS : Sa mg := ⟨m6, m3, m10, m7, m11, m2, m0, m9, m8, m5⟩
  have TL : Lt mg := ⟨m6, m4⟩
  have T7 : Ot7 mg := ⟨m6, m9, e0, e1, e2, e3, e4, e5, e6⟩
  have TM : Lim mg := ⟨⟨_, PySem.W.mg_of X G aL, ⟨_, rfl⟩⟩, ⟨_, PySem.W.mg_of X G aR, ⟨_, rfl⟩⟩⟩
  have CN : Cn mg (ca C0 C1 C2 C3 C4 C5 C6 C7 C8 C9 C10 C11 C12 C13 C14 C15 C16 C17) := ⟨N0.mg, N1.mg, N2.mg, N3.mg, N4.mg, N5.mg, N6.mg, N7.mg, N8.mg, N9.mg, N10.mg, N11.mg, N12.mg, N13.mg, N14.mg, N15.mg, N16.mg, N17.mg⟩
  have NF : Nf K (ca C0 C1 C2 C3 C4 C5 C6 C7 C8 C9 C10 C11 C12 C13 C14 C15 C16 C17) := ⟨V0, g0, h0, V1, g1, V2, g2, V3, g3, V4, g4, V5, g5, h5, V6, g6, V7, g7, V8, g8, V9, g9, V10, g10, V11, g11, V12, g12, V13, g13, h13, V14, g14, V15, g15, V16, g16, V17, g17⟩
  have CS : ∀ k, k < 18 → (PySem.W.clsIn K (ca C0 C1 C2 C3 C4 C5 C6 C7 C8 C9 C10 C11 C12 C13 C14 C15 C16 C17 k)).isSome = true ∧ PySem.W.typeIn K (.ref (ca C0 C1 C2 C3 C4 C5 C6 C7 C8 C9 C10 C11 C12 C13 C14 C15 C16 C17 k)) = some (.type "type") := fun k hk => by
    match k, hk with
    | 0, _ => exact ⟨cls_some V0.hd, N0.ox.tyC⟩
    | 1, _ => exact ⟨cls_some V1.hd, N1.ox.tyC⟩
    | 2, _ => exact ⟨cls_some V2.hd, N2.ox.tyC⟩
    | 3, _ => exact ⟨cls_some V3.hd, N3.ox.tyC⟩
    | 4, _ => exact ⟨cls_some V4.hd, N4.ox.tyC⟩
    | 5, _ => exact ⟨cls_some V5.hd, N5.ox.tyC⟩
    | 6, _ => exact ⟨cls_some V6.hd, N6.ox.tyC⟩
    | 7, _ => exact ⟨cls_some V7.hd, N7.ox.tyC⟩
    | 8, _ => exact ⟨cls_some V8.hd, N8.ox.tyC⟩
    | 9, _ => exact ⟨cls_some V9.hd, N9.ox.tyC⟩
    | 10, _ => exact ⟨cls_some V10.hd, N10.ox.tyC⟩
    | 11, _ => exact ⟨cls_some V11.hd, N11.ox.tyC⟩
    | 12, _ => exact ⟨cls_some V12.hd, N12.ox.tyC⟩
    | 13, _ => exact ⟨cls_some V13.hd, N13.ox.tyC⟩
    | 14, _ => exact ⟨cls_some V14.hd, N14.ox.tyC⟩
    | 15, _ => exact ⟨cls_some V15.hd, N15.ox.tyC⟩
    | 16, _ => exact ⟨cls_some V16.hd, N16.ox.tyC⟩
    | 17, _ => exact ⟨cls_some V17.hd, N17.ox.tyC⟩
    | n + 18, h => exact absurd h (by omega)
  have DI : ∀ i k, i < 18 → k < 18 → decide (ca C0 C1 C2 C3 C4 C5 C6 C7 C8 C9 C10 C11 C12 C13 C14 C15 C16 C17 i = ca C0 C1 C2 C3 C4 C5 C6 C7 C8 C9 C10 C11 C12 C13 C14 C15 C16 C17 k) = decide (i = k) := fun i k hi hk => by
    by_cases e : i = k
    · rw [e, decide_eq_true rfl, decide_eq_true rfl]
    · rw [decide_eq_false e, decide_eq_false (fun z => e (dist i hi k hk z))]
  have KN : Kn K (ca C0 C1 C2 C3 C4 C5 C6 C7 C8 C9 C10 C11 C12 C13 C14 C15 C16 C17) := {
    xv := fun i hi => by
      match i, hi with
      | 0, _ => exact V0
      | 1, _ => exact V1
      | 2, _ => exact V2
      | 3, _ => exact V3
      | 4, _ => exact V4
      | 5, _ => exact V5
      | 6, _ => exact V6
      | 7, _ => exact V7
      | 8, _ => exact V8
      | 9, _ => exact V9
      | 10, _ => exact V10
      | 11, _ => exact V11
      | 12, _ => exact V12
      | 13, _ => exact V13
      | 14, _ => exact V14
      | 15, _ => exact V15
      | 16, _ => exact V16
      | 17, _ => exact V17
      | n + 18, h => exact absurd h (by omega)
    kk := fun i k hi hk => by
      rw [← DI i k hi hk]
      obtain ⟨h1, h2⟩ := CS k hk
      match i, hi with
      | 0, _ => exact kit_ref5 rfl h1 h2 N0.lk
      | 1, _ => exact kit_ref5 rfl h1 h2 N1.lk
      | 2, _ => exact kit_ref5 rfl h1 h2 N2.lk
      | 3, _ => exact kit_ref5 rfl h1 h2 N3.lk
      | 4, _ => exact kit_ref5 rfl h1 h2 N4.lk
      | 5, _ => exact kit_ref5 rfl h1 h2 N5.lk
      | 6, _ => exact kit_ref5 rfl h1 h2 N6.lk
      | 7, _ => exact kit_ref5 rfl h1 h2 N7.lk
      | 8, _ => exact kit_ref5 rfl h1 h2 N8.lk
      | 9, _ => exact kit_ref5 rfl h1 h2 N9.lk
      | 10, _ => exact kit_ref5 rfl h1 h2 N10.lk
      | 11, _ => exact kit_ref5 rfl h1 h2 N11.lk
      | 12, _ => exact kit_ref5 rfl h1 h2 N12.lk
      | 13, _ => exact kit_ref5 rfl h1 h2 N13.lk
      | 14, _ => exact kit_ref5 rfl h1 h2 N14.lk
      | 15, _ => exact kit_ref5 rfl h1 h2 N15.lk
      | 16, _ => exact kit_ref5 rfl h1 h2 N16.lk
      | 17, _ => exact kit_ref5 rfl h1 h2 N17.lk
      | n + 18, h => exact absurd h (by omega)
    ov := fun i hi => by
      match i, hi with
      | 0, _ => exact ⟨kit_ty5 (by decide +kernel) N0.lk, kit_ty5 (by decide +kernel) N0.lk, kit_ty5 (by decide +kernel) N0.lk, kit_ty5 (by decide +kernel) N0.lk, kit_ty5 (by decide +kernel) N0.lk, kit_ty5 (by decide +kernel) N0.lk, kit_ty5 (by decide +kernel) N0.lk⟩
      | 1, _ => exact ⟨kit_ty5 (by decide +kernel) N1.lk, kit_ty5 (by decide +kernel) N1.lk, kit_ty5 (by decide +kernel) N1.lk, kit_ty5 (by decide +kernel) N1.lk, kit_ty5 (by decide +kernel) N1.lk, kit_ty5 (by decide +kernel) N1.lk, kit_ty5 (by decide +kernel) N1.lk⟩
      | 2, _ => exact ⟨kit_ty5 (by decide +kernel) N2.lk, kit_ty5 (by decide +kernel) N2.lk, kit_ty5 (by decide +kernel) N2.lk, kit_ty5 (by decide +kernel) N2.lk, kit_ty5 (by decide +kernel) N2.lk, kit_ty5 (by decide +kernel) N2.lk, kit_ty5 (by decide +kernel) N2.lk⟩
      | 3, _ => exact ⟨kit_ty5 (by decide +kernel) N3.lk, kit_ty5 (by decide +kernel) N3.lk, kit_ty5 (by decide +kernel) N3.lk, kit_ty5 (by decide +kernel) N3.lk, kit_ty5 (by decide +kernel) N3.lk, kit_ty5 (by decide +kernel) N3.lk, kit_ty5 (by decide +kernel) N3.lk⟩
      | 4, _ => exact ⟨kit_ty5 (by decide +kernel) N4.lk, kit_ty5 (by decide +kernel) N4.lk, kit_ty5 (by decide +kernel) N4.lk, kit_ty5 (by decide +kernel) N4.lk, kit_ty5 (by decide +kernel) N4.lk, kit_ty5 (by decide +kernel) N4.lk, kit_ty5 (by decide +kernel) N4.lk⟩
      | 5, _ => exact ⟨kit_ty5 (by decide +kernel) N5.lk, kit_ty5 (by decide +kernel) N5.lk, kit_ty5 (by decide +kernel) N5.lk, kit_ty5 (by decide +kernel) N5.lk, kit_ty5 (by decide +kernel) N5.lk, kit_ty5 (by decide +kernel) N5.lk, kit_ty5 (by decide +kernel) N5.lk⟩
      | 6, _ => exact ⟨kit_ty5 (by decide +kernel) N6.lk, kit_ty5 (by decide +kernel) N6.lk, kit_ty5 (by decide +kernel) N6.lk, kit_ty5 (by decide +kernel) N6.lk, kit_ty5 (by decide +kernel) N6.lk, kit_ty5 (by decide +kernel) N6.lk, kit_ty5 (by decide +kernel) N6.lk⟩
      | 7, _ => exact ⟨kit_ty5 (by decide +kernel) N7.lk, kit_ty5 (by decide +kernel) N7.lk, kit_ty5 (by decide +kernel) N7.lk, kit_ty5 (by decide +kernel) N7.lk, kit_ty5 (by decide +kernel) N7.lk, kit_ty5 (by decide +kernel) N7.lk, kit_ty5 (by decide +kernel) N7.lk⟩
      | 8, _ => exact ⟨kit_ty5 (by decide +kernel) N8.lk, kit_ty5 (by decide +kernel) N8.lk, kit_ty5 (by decide +kernel) N8.lk, kit_ty5 (by decide +kernel) N8.lk, kit_ty5 (by decide +kernel) N8.lk, kit_ty5 (by decide +kernel) N8.lk, kit_ty5 (by decide +kernel) N8.lk⟩
      | 9, _ => exact ⟨kit_ty5 (by decide +kernel) N9.lk, kit_ty5 (by decide +kernel) N9.lk, kit_ty5 (by decide +kernel) N9.lk, kit_ty5 (by decide +kernel) N9.lk, kit_ty5 (by decide +kernel) N9.lk, kit_ty5 (by decide +kernel) N9.lk, kit_ty5 (by decide +kernel) N9.lk⟩
      | 10, _ => exact ⟨kit_ty5 (by decide +kernel) N10.lk, kit_ty5 (by decide +kernel) N10.lk, kit_ty5 (by decide +kernel) N10.lk, kit_ty5 (by decide +kernel) N10.lk, kit_ty5 (by decide +kernel) N10.lk, kit_ty5 (by decide +kernel) N10.lk, kit_ty5 (by decide +kernel) N10.lk⟩
      | 11, _ => exact ⟨kit_ty5 (by decide +kernel) N11.lk, kit_ty5 (by decide +kernel) N11.lk, kit_ty5 (by decide +kernel) N11.lk, kit_ty5 (by decide +kernel) N11.lk, kit_ty5 (by decide +kernel) N11.lk, kit_ty5 (by decide +kernel) N11.lk, kit_ty5 (by decide +kernel) N11.lk⟩
      | 12, _ => exact ⟨kit_ty5 (by decide +kernel) N12.lk, kit_ty5 (by decide +kernel) N12.lk, kit_ty5 (by decide +kernel) N12.lk, kit_ty5 (by decide +kernel) N12.lk, kit_ty5 (by decide +kernel) N12.lk, kit_ty5 (by decide +kernel) N12.lk, kit_ty5 (by decide +kernel) N12.lk⟩
      | 13, _ => exact ⟨kit_ty5 (by decide +kernel) N13.lk, kit_ty5 (by decide +kernel) N13.lk, kit_ty5 (by decide +kernel) N13.lk, kit_ty5 (by decide +kernel) N13.lk, kit_ty5 (by decide +kernel) N13.lk, kit_ty5 (by decide +kernel) N13.lk, kit_ty5 (by decide +kernel) N13.lk⟩
      | 14, _ => exact ⟨kit_ty5 (by decide +kernel) N14.lk, kit_ty5 (by decide +kernel) N14.lk, kit_ty5 (by decide +kernel) N14.lk, kit_ty5 (by decide +kernel) N14.lk, kit_ty5 (by decide +kernel) N14.lk, kit_ty5 (by decide +kernel) N14.lk, kit_ty5 (by decide +kernel) N14.lk⟩
      | 15, _ => exact ⟨kit_ty5 (by decide +kernel) N15.lk, kit_ty5 (by decide +kernel) N15.lk, kit_ty5 (by decide +kernel) N15.lk, kit_ty5 (by decide +kernel) N15.lk, kit_ty5 (by decide +kernel) N15.lk, kit_ty5 (by decide +kernel) N15.lk, kit_ty5 (by decide +kernel) N15.lk⟩
      | 16, _ => exact ⟨kit_ty5 (by decide +kernel) N16.lk, kit_ty5 (by decide +kernel) N16.lk, kit_ty5 (by decide +kernel) N16.lk, kit_ty5 (by decide +kernel) N16.lk, kit_ty5 (by decide +kernel) N16.lk, kit_ty5 (by decide +kernel) N16.lk, kit_ty5 (by decide +kernel) N16.lk⟩
      | 17, _ => exact ⟨kit_ty5 (by decide +kernel) N17.lk, kit_ty5 (by decide +kernel) N17.lk, kit_ty5 (by decide +kernel) N17.lk, kit_ty5 (by decide +kernel) N17.lk, kit_ty5 (by decide +kernel) N17.lk, kit_ty5 (by decide +kernel) N17.lk, kit_ty5 (by decide +kernel) N17.lk⟩
      | n + 18, h => exact absurd h (by omega) }
  refine ⟨PySem.W.fnOf "law" "law" (defArgs s_law) (defBody s_law) (defScope s_law) .none kV4 dc4 pm4 an4 cd4 ct4, fun s v => .of_eq rfl, fun base _ _ => ?_⟩
  have cw := ok_ownD (P := l.prog) (w := w) (base := base) TO D0 4
  have q0 := mk_BadGrammar cw N0 B0 e0 g0 h0
  have q1 := mk_BadRow cw N1 B0 e0 g1
  have q2 := mk_BadText cw N2 B0 e0 g2
  have q3 := mk_NoTree cw N3 B0 e0 g3
  have q4 := mk_NoGiven cw N4 B0 e0 g4
  have q5 := mk_NotLet cw N5 B0 e0 g5 h5
  have q6 := mk_NoCap cw N6 B0 e0 g6
  have q7 := mk_NoName cw N7 B1 e1 g7
  have q8 := mk_NoOp cw N8 B1 e1 g8
  have q9 := mk_NoRow cw N9 B1 e1 g9
  have q10 := mk_NoSpot cw N10 B2 e2 g10
  have q11 := mk_NoNode cw N11 B3 e3 g11
  have q12 := mk_Ring cw N12 B4 e4 g12
  have q13 := mk_Ringed cw N13 B4 e4 g13 h13
  have q14 := mk_Clash cw N14 B4 e4 g14
  have q15 := mk_Taken cw N15 B4 e4 g15
  have q16 := mk_Lacks cw N16 B5 e5 g16
  have q17 := mk_TooMuch cw N17 B6 e6 g17
  have MK : Mks l.prog w K mg base (ca C0 C1 C2 C3 C4 C5 C6 C7 C8 C9 C10 C11 C12 C13 C14 C15 C16 C17) := ⟨q0.1, q0.2, q1.1, q1.2, q2.1, q2.2, q3.1, q3.2, q4.1, q4.2, q5.1, q5.2, q6.1, q6.2, q7.1, q7.2, q8.1, q8.2, q9.1, q9.2, q10.1, q10.2, q11.1, q11.2, q12.1, q12.2, q13.1, q13.2, q14.1, q14.2, q15.1, q15.2, q16.1, q16.2, q17.1, q17.2⟩
  have cs := ok_same (P := l.prog) (w := w) (base := base) TS D4 6
  exact ok_law TS TM (ok_folded TB D3) (ok_dip TB D2) (ok_thing (ok_take D1) D10) (ok_right5 TS KN (ok_made MK D7) (ok_called MK D8) (ok_own18 TL CN D5) (ok_over7 T7 D6) cs (ok_fields NF D9) D11) cs F4
end Thr
open PySem PySem.W PyProof.Rows
set_option maxRecDepth 100000 in
set_option maxHeartbeats 0 in
theorem PySem.Challenge.cw_threereckons_k05_errors_and_limits_holds : PySem.Challenge.rw_threereckons_k05_errors_and_limits.Holds := by
  w_on; o_law; k_head; (case hw => w_witness2)
  k_fill
  refine L2.walk_of (l := PySem.Challenge.rw_threereckons_k05_errors_and_limits) (n := 63) (k := 10) (x := "_law_script") (CX := fun _ => L2.CX0) (sp := fun w => Thr.spLaw _) rfl (by decide) rfl ⟨rfl, by decide, by decide⟩ (fun w h Y => PySem.W.kIn_of Y) ?F (fun _ _ a ns hl _ hS => ⟨a, ns, rfl, hS, hl, fun _ => rfl⟩) (fun _ _ _ _ _ h => h)
  case F =>
    intro w mg fa h KX G hmg
    refine' Thr.all_mk KX G hmg
      (Thr.fun_ox5 (newId := "ValueError.__new__") (bm := [.type "ValueError", .type "Exception", .type "BaseException", .type "object"]) KX G ?o0_1 ?o0_2 Thr.new_VE Thr.init_VE (Thr.mro_VE _) ?o0_3 ?o0_4 ?o0_5 ?o0_6 ?o0_7 ?o0_8 ?o0_9 ?o0_10 ?o0_11 ?o0_12) ⟨?v0_1, ?v0_2, ?v0_3, ?v0_4, ?v0_5, ?v0_6, ?v0_7, ?v0_8⟩ ?f0_0 ?f0_1
      (Thr.fun_ox5 (newId := "ValueError.__new__") (bm := [.type "ValueError", .type "Exception", .type "BaseException", .type "object"]) KX G ?o1_1 ?o1_2 Thr.new_VE Thr.init_VE (Thr.mro_VE _) ?o1_3 ?o1_4 ?o1_5 ?o1_6 ?o1_7 ?o1_8 ?o1_9 ?o1_10 ?o1_11 ?o1_12) ⟨?v1_1, ?v1_2, ?v1_3, ?v1_4, ?v1_5, ?v1_6, ?v1_7, ?v1_8⟩ ?f1_0
      (Thr.fun_ox5 (newId := "ValueError.__new__") (bm := [.type "ValueError", .type "Exception", .type "BaseException", .type "object"]) KX G ?o2_1 ?o2_2 Thr.new_VE Thr.init_VE (Thr.mro_VE _) ?o2_3 ?o2_4 ?o2_5 ?o2_6 ?o2_7 ?o2_8 ?o2_9 ?o2_10 ?o2_11 ?o2_12) ⟨?v2_1, ?v2_2, ?v2_3, ?v2_4, ?v2_5, ?v2_6, ?v2_7, ?v2_8⟩ ?f2_0
      (Thr.fun_ox5 (newId := "ValueError.__new__") (bm := [.type "ValueError", .type "Exception", .type "BaseException", .type "object"]) KX G ?o3_1 ?o3_2 Thr.new_VE Thr.init_VE (Thr.mro_VE _) ?o3_3 ?o3_4 ?o3_5 ?o3_6 ?o3_7 ?o3_8 ?o3_9 ?o3_10 ?o3_11 ?o3_12) ⟨?v3_1, ?v3_2, ?v3_3, ?v3_4, ?v3_5, ?v3_6, ?v3_7, ?v3_8⟩ ?f3_0
      (Thr.fun_ox5 (newId := "ValueError.__new__") (bm := [.type "ValueError", .type "Exception", .type "BaseException", .type "object"]) KX G ?o4_1 ?o4_2 Thr.new_VE Thr.init_VE (Thr.mro_VE _) ?o4_3 ?o4_4 ?o4_5 ?o4_6 ?o4_7 ?o4_8 ?o4_9 ?o4_10 ?o4_11 ?o4_12) ⟨?v4_1, ?v4_2, ?v4_3, ?v4_4, ?v4_5, ?v4_6, ?v4_7, ?v4_8⟩ ?f4_0
      (Thr.fun_ox5 (newId := "ValueError.__new__") (bm := [.type "ValueError", .type "Exception", .type "BaseException", .type "object"]) KX G ?o5_1 ?o5_2 Thr.new_VE Thr.init_VE (Thr.mro_VE _) ?o5_3 ?o5_4 ?o5_5 ?o5_6 ?o5_7 ?o5_8 ?o5_9 ?o5_10 ?o5_11 ?o5_12) ⟨?v5_1, ?v5_2, ?v5_3, ?v5_4, ?v5_5, ?v5_6, ?v5_7, ?v5_8⟩ ?f5_0 ?f5_1
      (Thr.fun_ox5 (newId := "ValueError.__new__") (bm := [.type "ValueError", .type "Exception", .type "BaseException", .type "object"]) KX G ?o6_1 ?o6_2 Thr.new_VE Thr.init_VE (Thr.mro_VE _) ?o6_3 ?o6_4 ?o6_5 ?o6_6 ?o6_7 ?o6_8 ?o6_9 ?o6_10 ?o6_11 ?o6_12) ⟨?v6_1, ?v6_2, ?v6_3, ?v6_4, ?v6_5, ?v6_6, ?v6_7, ?v6_8⟩ ?f6_0
      (Thr.fun_ox5 (newId := "LookupError.__new__") (bm := [.type "KeyError", .type "LookupError", .type "Exception", .type "BaseException", .type "object"]) KX G ?o7_1 ?o7_2 Thr.new_KE Thr.init_KE (Thr.mro_KE _) ?o7_3 ?o7_4 ?o7_5 ?o7_6 ?o7_7 ?o7_8 ?o7_9 ?o7_10 ?o7_11 ?o7_12) ⟨?v7_1, ?v7_2, ?v7_3, ?v7_4, ?v7_5, ?v7_6, ?v7_7, ?v7_8⟩ ?f7_0
      (Thr.fun_ox5 (newId := "LookupError.__new__") (bm := [.type "KeyError", .type "LookupError", .type "Exception", .type "BaseException", .type "object"]) KX G ?o8_1 ?o8_2 Thr.new_KE Thr.init_KE (Thr.mro_KE _) ?o8_3 ?o8_4 ?o8_5 ?o8_6 ?o8_7 ?o8_8 ?o8_9 ?o8_10 ?o8_11 ?o8_12) ⟨?v8_1, ?v8_2, ?v8_3, ?v8_4, ?v8_5, ?v8_6, ?v8_7, ?v8_8⟩ ?f8_0
      (Thr.fun_ox5 (newId := "LookupError.__new__") (bm := [.type "KeyError", .type "LookupError", .type "Exception", .type "BaseException", .type "object"]) KX G ?o9_1 ?o9_2 Thr.new_KE Thr.init_KE (Thr.mro_KE _) ?o9_3 ?o9_4 ?o9_5 ?o9_6 ?o9_7 ?o9_8 ?o9_9 ?o9_10 ?o9_11 ?o9_12) ⟨?v9_1, ?v9_2, ?v9_3, ?v9_4, ?v9_5, ?v9_6, ?v9_7, ?v9_8⟩ ?f9_0
      (Thr.fun_ox5 (newId := "LookupError.__new__") (bm := [.type "LookupError", .type "Exception", .type "BaseException", .type "object"]) KX G ?o10_1 ?o10_2 Thr.new_LE Thr.init_LE (Thr.mro_LE _) ?o10_3 ?o10_4 ?o10_5 ?o10_6 ?o10_7 ?o10_8 ?o10_9 ?o10_10 ?o10_11 ?o10_12) ⟨?v10_1, ?v10_2, ?v10_3, ?v10_4, ?v10_5, ?v10_6, ?v10_7, ?v10_8⟩ ?f10_0
      (Thr.fun_ox5 (newId := "IndexError.__new__") (bm := [.type "IndexError", .type "LookupError", .type "Exception", .type "BaseException", .type "object"]) KX G ?o11_1 ?o11_2 Thr.new_IE Thr.init_IE (Thr.mro_IE _) ?o11_3 ?o11_4 ?o11_5 ?o11_6 ?o11_7 ?o11_8 ?o11_9 ?o11_10 ?o11_11 ?o11_12) ⟨?v11_1, ?v11_2, ?v11_3, ?v11_4, ?v11_5, ?v11_6, ?v11_7, ?v11_8⟩ ?f11_0
      (Thr.fun_ox5 (newId := "RuntimeError.__new__") (bm := [.type "RuntimeError", .type "Exception", .type "BaseException", .type "object"]) KX G ?o12_1 ?o12_2 Thr.new_RE Thr.init_RE (Thr.mro_RE _) ?o12_3 ?o12_4 ?o12_5 ?o12_6 ?o12_7 ?o12_8 ?o12_9 ?o12_10 ?o12_11 ?o12_12) ⟨?v12_1, ?v12_2, ?v12_3, ?v12_4, ?v12_5, ?v12_6, ?v12_7, ?v12_8⟩ ?f12_0
      (Thr.fun_ox5 (newId := "RuntimeError.__new__") (bm := [.type "RuntimeError", .type "Exception", .type "BaseException", .type "object"]) KX G ?o13_1 ?o13_2 Thr.new_RE Thr.init_RE (Thr.mro_RE _) ?o13_3 ?o13_4 ?o13_5 ?o13_6 ?o13_7 ?o13_8 ?o13_9 ?o13_10 ?o13_11 ?o13_12) ⟨?v13_1, ?v13_2, ?v13_3, ?v13_4, ?v13_5, ?v13_6, ?v13_7, ?v13_8⟩ ?f13_0 ?f13_1
      (Thr.fun_ox5 (newId := "RuntimeError.__new__") (bm := [.type "RuntimeError", .type "Exception", .type "BaseException", .type "object"]) KX G ?o14_1 ?o14_2 Thr.new_RE Thr.init_RE (Thr.mro_RE _) ?o14_3 ?o14_4 ?o14_5 ?o14_6 ?o14_7 ?o14_8 ?o14_9 ?o14_10 ?o14_11 ?o14_12) ⟨?v14_1, ?v14_2, ?v14_3, ?v14_4, ?v14_5, ?v14_6, ?v14_7, ?v14_8⟩ ?f14_0
      (Thr.fun_ox5 (newId := "RuntimeError.__new__") (bm := [.type "RuntimeError", .type "Exception", .type "BaseException", .type "object"]) KX G ?o15_1 ?o15_2 Thr.new_RE Thr.init_RE (Thr.mro_RE _) ?o15_3 ?o15_4 ?o15_5 ?o15_6 ?o15_7 ?o15_8 ?o15_9 ?o15_10 ?o15_11 ?o15_12) ⟨?v15_1, ?v15_2, ?v15_3, ?v15_4, ?v15_5, ?v15_6, ?v15_7, ?v15_8⟩ ?f15_0
      (Thr.fun_ox5 (newId := "ArithmeticError.__new__") (bm := [.type "ArithmeticError", .type "Exception", .type "BaseException", .type "object"]) KX G ?o16_1 ?o16_2 Thr.new_AE Thr.init_AE (Thr.mro_AE _) ?o16_3 ?o16_4 ?o16_5 ?o16_6 ?o16_7 ?o16_8 ?o16_9 ?o16_10 ?o16_11 ?o16_12) ⟨?v16_1, ?v16_2, ?v16_3, ?v16_4, ?v16_5, ?v16_6, ?v16_7, ?v16_8⟩ ?f16_0
      (Thr.fun_ox5 (newId := "OverflowError.__new__") (bm := [.type "OverflowError", .type "ArithmeticError", .type "Exception", .type "BaseException", .type "object"]) KX G ?o17_1 ?o17_2 Thr.new_OE Thr.init_OE (Thr.mro_OE _) ?o17_3 ?o17_4 ?o17_5 ?o17_6 ?o17_7 ?o17_8 ?o17_9 ?o17_10 ?o17_11 ?o17_12) ⟨?v17_1, ?v17_2, ?v17_3, ?v17_4, ?v17_5, ?v17_6, ?v17_7, ?v17_8⟩ ?f17_0
      ?b0 ?y0      ?b1 ?y1      ?b2 ?y2      ?b3 ?y3      ?b4 ?y4      ?b5 ?y5      ?b6 ?y6
      ?z0 ?z1 ?z2 ?z3 ?z4 ?z5 ?z6 ?z7 ?z8 ?z9 ?z10 ?z11 ?aL ?aR
      (Thr.fun_dd KX G ?x0 ?w0 ?u0 ?t0 ?s0)
      (Thr.fun_dd KX G ?x1 ?w1 ?u1 ?t1 ?s1)
      (Thr.fun_dd KX G ?x2 ?w2 ?u2 ?t2 ?s2)
      (Thr.fun_dd KX G ?x3 ?w3 ?u3 ?t3 ?s3)
      (Thr.fun_dd KX G ?x4 ?w4 ?u4 ?t4 ?s4)
      (Thr.fun_dd KX G ?x5 ?w5 ?u5 ?t5 ?s5)
      (Thr.fun_dd KX G ?x6 ?w6 ?u6 ?t6 ?s6)
      (Thr.fun_dd KX G ?x7 ?w7 ?u7 ?t7 ?s7)
      (Thr.fun_dd KX G ?x8 ?w8 ?u8 ?t8 ?s8)
      (Thr.fun_dd KX G ?x9 ?w9 ?u9 ?t9 ?s9)
      (Thr.fun_dd KX G ?x10 ?w10 ?u10 ?t10 ?s10)
      (Thr.fun_dd KX G ?x11 ?w11 ?u11 ?t11 ?s11)
      ?a4 ?l4 ?c4 ?k4 ?dist
    (case o0_1 => k_is)
    (case o0_2 => k_is)
    (case o0_3 => k_is)
    (case o0_4 => k_is)
    (case o0_5 => k_is)
    (case o0_6 => k_is)
    (case o0_7 => k_is)
    (case o0_8 => k_is)
    (case o0_9 => k_is)
    (case o0_10 => k_is)
    (case o0_11 => k_is)
    (case o0_12 => exact fun _ _ _ _ _ _ us hl => match us, hl with | [_, _, _], _ => rfl)
    (case v0_1 => k_is)
    (case v0_2 => k_is)
    (case v0_3 => k_is)
    (case v0_4 => k_is)
    (case v0_5 => k_is)
    (case v0_6 => k_is)
    (case v0_7 => k_is)
    (case v0_8 => k_is)
    (case f0_0 => k_is)
    (case f0_1 => k_is)
    (case o1_1 => k_is)
    (case o1_2 => k_is)
    (case o1_3 => k_is)
    (case o1_4 => k_is)
    (case o1_5 => k_is)
    (case o1_6 => k_is)
    (case o1_7 => k_is)
    (case o1_8 => k_is)
    (case o1_9 => k_is)
    (case o1_10 => k_is)
    (case o1_11 => k_is)
    (case o1_12 => exact fun _ _ _ _ _ _ us hl => match us, hl with | [_, _], _ => rfl)
    (case v1_1 => k_is)
    (case v1_2 => k_is)
    (case v1_3 => k_is)
    (case v1_4 => k_is)
    (case v1_5 => k_is)
    (case v1_6 => k_is)
    (case v1_7 => k_is)
    (case v1_8 => k_is)
    (case f1_0 => k_is)
    (case o2_1 => k_is)
    (case o2_2 => k_is)
    (case o2_3 => k_is)
    (case o2_4 => k_is)
    (case o2_5 => k_is)
    (case o2_6 => k_is)
    (case o2_7 => k_is)
    (case o2_8 => k_is)
    (case o2_9 => k_is)
    (case o2_10 => k_is)
    (case o2_11 => k_is)
    (case o2_12 => exact fun _ _ _ _ _ _ us hl => match us, hl with | [_, _], _ => rfl)
    (case v2_1 => k_is)
    (case v2_2 => k_is)
    (case v2_3 => k_is)
    (case v2_4 => k_is)
    (case v2_5 => k_is)
    (case v2_6 => k_is)
    (case v2_7 => k_is)
    (case v2_8 => k_is)
    (case f2_0 => k_is)
    (case o3_1 => k_is)
    (case o3_2 => k_is)
    (case o3_3 => k_is)
    (case o3_4 => k_is)
    (case o3_5 => k_is)
    (case o3_6 => k_is)
    (case o3_7 => k_is)
    (case o3_8 => k_is)
    (case o3_9 => k_is)
    (case o3_10 => k_is)
    (case o3_11 => k_is)
    (case o3_12 => exact fun _ _ _ _ _ _ us hl => match us, hl with | [_, _], _ => rfl)
    (case v3_1 => k_is)
    (case v3_2 => k_is)
    (case v3_3 => k_is)
    (case v3_4 => k_is)
    (case v3_5 => k_is)
    (case v3_6 => k_is)
    (case v3_7 => k_is)
    (case v3_8 => k_is)
    (case f3_0 => k_is)
    (case o4_1 => k_is)
    (case o4_2 => k_is)
    (case o4_3 => k_is)
    (case o4_4 => k_is)
    (case o4_5 => k_is)
    (case o4_6 => k_is)
    (case o4_7 => k_is)
    (case o4_8 => k_is)
    (case o4_9 => k_is)
    (case o4_10 => k_is)
    (case o4_11 => k_is)
    (case o4_12 => exact fun _ _ _ _ _ _ us hl => match us, hl with | [_, _], _ => rfl)
    (case v4_1 => k_is)
    (case v4_2 => k_is)
    (case v4_3 => k_is)
    (case v4_4 => k_is)
    (case v4_5 => k_is)
    (case v4_6 => k_is)
    (case v4_7 => k_is)
    (case v4_8 => k_is)
    (case f4_0 => k_is)
    (case o5_1 => k_is)
    (case o5_2 => k_is)
    (case o5_3 => k_is)
    (case o5_4 => k_is)
    (case o5_5 => k_is)
    (case o5_6 => k_is)
    (case o5_7 => k_is)
    (case o5_8 => k_is)
    (case o5_9 => k_is)
    (case o5_10 => k_is)
    (case o5_11 => k_is)
    (case o5_12 => exact fun _ _ _ _ _ _ us hl => match us, hl with | [_, _, _], _ => rfl)
    (case v5_1 => k_is)
    (case v5_2 => k_is)
    (case v5_3 => k_is)
    (case v5_4 => k_is)
    (case v5_5 => k_is)
    (case v5_6 => k_is)
    (case v5_7 => k_is)
    (case v5_8 => k_is)
    (case f5_0 => k_is)
    (case f5_1 => k_is)
    (case o6_1 => k_is)
    (case o6_2 => k_is)
    (case o6_3 => k_is)
    (case o6_4 => k_is)
    (case o6_5 => k_is)
    (case o6_6 => k_is)
    (case o6_7 => k_is)
    (case o6_8 => k_is)
    (case o6_9 => k_is)
    (case o6_10 => k_is)
    (case o6_11 => k_is)
    (case o6_12 => exact fun _ _ _ _ _ _ us hl => match us, hl with | [_, _], _ => rfl)
    (case v6_1 => k_is)
    (case v6_2 => k_is)
    (case v6_3 => k_is)
    (case v6_4 => k_is)
    (case v6_5 => k_is)
    (case v6_6 => k_is)
    (case v6_7 => k_is)
    (case v6_8 => k_is)
    (case f6_0 => k_is)
    (case o7_1 => k_is)
    (case o7_2 => k_is)
    (case o7_3 => k_is)
    (case o7_4 => k_is)
    (case o7_5 => k_is)
    (case o7_6 => k_is)
    (case o7_7 => k_is)
    (case o7_8 => k_is)
    (case o7_9 => k_is)
    (case o7_10 => k_is)
    (case o7_11 => k_is)
    (case o7_12 => exact fun _ _ _ _ _ _ us hl => match us, hl with | [_, _], _ => rfl)
    (case v7_1 => k_is)
    (case v7_2 => k_is)
    (case v7_3 => k_is)
    (case v7_4 => k_is)
    (case v7_5 => k_is)
    (case v7_6 => k_is)
    (case v7_7 => k_is)
    (case v7_8 => k_is)
    (case f7_0 => k_is)
    (case o8_1 => k_is)
    (case o8_2 => k_is)
    (case o8_3 => k_is)
    (case o8_4 => k_is)
    (case o8_5 => k_is)
    (case o8_6 => k_is)
    (case o8_7 => k_is)
    (case o8_8 => k_is)
    (case o8_9 => k_is)
    (case o8_10 => k_is)
    (case o8_11 => k_is)
    (case o8_12 => exact fun _ _ _ _ _ _ us hl => match us, hl with | [_, _], _ => rfl)
    (case v8_1 => k_is)
    (case v8_2 => k_is)
    (case v8_3 => k_is)
    (case v8_4 => k_is)
    (case v8_5 => k_is)
    (case v8_6 => k_is)
    (case v8_7 => k_is)
    (case v8_8 => k_is)
    (case f8_0 => k_is)
    (case o9_1 => k_is)
    (case o9_2 => k_is)
    (case o9_3 => k_is)
    (case o9_4 => k_is)
    (case o9_5 => k_is)
    (case o9_6 => k_is)
    (case o9_7 => k_is)
    (case o9_8 => k_is)
    (case o9_9 => k_is)
    (case o9_10 => k_is)
    (case o9_11 => k_is)
    (case o9_12 => exact fun _ _ _ _ _ _ us hl => match us, hl with | [_, _], _ => rfl)
    (case v9_1 => k_is)
    (case v9_2 => k_is)
    (case v9_3 => k_is)
    (case v9_4 => k_is)
    (case v9_5 => k_is)
    (case v9_6 => k_is)
    (case v9_7 => k_is)
    (case v9_8 => k_is)
    (case f9_0 => k_is)
    (case o10_1 => k_is)
    (case o10_2 => k_is)
    (case o10_3 => k_is)
    (case o10_4 => k_is)
    (case o10_5 => k_is)
    (case o10_6 => k_is)
    (case o10_7 => k_is)
    (case o10_8 => k_is)
    (case o10_9 => k_is)
    (case o10_10 => k_is)
    (case o10_11 => k_is)
    (case o10_12 => exact fun _ _ _ _ _ _ us hl => match us, hl with | [_, _], _ => rfl)
    (case v10_1 => k_is)
    (case v10_2 => k_is)
    (case v10_3 => k_is)
    (case v10_4 => k_is)
    (case v10_5 => k_is)
    (case v10_6 => k_is)
    (case v10_7 => k_is)
    (case v10_8 => k_is)
    (case f10_0 => k_is)
    (case o11_1 => k_is)
    (case o11_2 => k_is)
    (case o11_3 => k_is)
    (case o11_4 => k_is)
    (case o11_5 => k_is)
    (case o11_6 => k_is)
    (case o11_7 => k_is)
    (case o11_8 => k_is)
    (case o11_9 => k_is)
    (case o11_10 => k_is)
    (case o11_11 => k_is)
    (case o11_12 => exact fun _ _ _ _ _ _ us hl => match us, hl with | [_, _], _ => rfl)
    (case v11_1 => k_is)
    (case v11_2 => k_is)
    (case v11_3 => k_is)
    (case v11_4 => k_is)
    (case v11_5 => k_is)
    (case v11_6 => k_is)
    (case v11_7 => k_is)
    (case v11_8 => k_is)
    (case f11_0 => k_is)
    (case o12_1 => k_is)
    (case o12_2 => k_is)
    (case o12_3 => k_is)
    (case o12_4 => k_is)
    (case o12_5 => k_is)
    (case o12_6 => k_is)
    (case o12_7 => k_is)
    (case o12_8 => k_is)
    (case o12_9 => k_is)
    (case o12_10 => k_is)
    (case o12_11 => k_is)
    (case o12_12 => exact fun _ _ _ _ _ _ us hl => match us, hl with | [_, _], _ => rfl)
    (case v12_1 => k_is)
    (case v12_2 => k_is)
    (case v12_3 => k_is)
    (case v12_4 => k_is)
    (case v12_5 => k_is)
    (case v12_6 => k_is)
    (case v12_7 => k_is)
    (case v12_8 => k_is)
    (case f12_0 => k_is)
    (case o13_1 => k_is)
    (case o13_2 => k_is)
    (case o13_3 => k_is)
    (case o13_4 => k_is)
    (case o13_5 => k_is)
    (case o13_6 => k_is)
    (case o13_7 => k_is)
    (case o13_8 => k_is)
    (case o13_9 => k_is)
    (case o13_10 => k_is)
    (case o13_11 => k_is)
    (case o13_12 => exact fun _ _ _ _ _ _ us hl => match us, hl with | [_, _, _], _ => rfl)
    (case v13_1 => k_is)
    (case v13_2 => k_is)
    (case v13_3 => k_is)
    (case v13_4 => k_is)
    (case v13_5 => k_is)
    (case v13_6 => k_is)
    (case v13_7 => k_is)
    (case v13_8 => k_is)
    (case f13_0 => k_is)
    (case f13_1 => k_is)
    (case o14_1 => k_is)
    (case o14_2 => k_is)
    (case o14_3 => k_is)
    (case o14_4 => k_is)
    (case o14_5 => k_is)
    (case o14_6 => k_is)
    (case o14_7 => k_is)
    (case o14_8 => k_is)
    (case o14_9 => k_is)
    (case o14_10 => k_is)
    (case o14_11 => k_is)
    (case o14_12 => exact fun _ _ _ _ _ _ us hl => match us, hl with | [_, _], _ => rfl)
    (case v14_1 => k_is)
    (case v14_2 => k_is)
    (case v14_3 => k_is)
    (case v14_4 => k_is)
    (case v14_5 => k_is)
    (case v14_6 => k_is)
    (case v14_7 => k_is)
    (case v14_8 => k_is)
    (case f14_0 => k_is)
    (case o15_1 => k_is)
    (case o15_2 => k_is)
    (case o15_3 => k_is)
    (case o15_4 => k_is)
    (case o15_5 => k_is)
    (case o15_6 => k_is)
    (case o15_7 => k_is)
    (case o15_8 => k_is)
    (case o15_9 => k_is)
    (case o15_10 => k_is)
    (case o15_11 => k_is)
    (case o15_12 => exact fun _ _ _ _ _ _ us hl => match us, hl with | [_, _], _ => rfl)
    (case v15_1 => k_is)
    (case v15_2 => k_is)
    (case v15_3 => k_is)
    (case v15_4 => k_is)
    (case v15_5 => k_is)
    (case v15_6 => k_is)
    (case v15_7 => k_is)
    (case v15_8 => k_is)
    (case f15_0 => k_is)
    (case o16_1 => k_is)
    (case o16_2 => k_is)
    (case o16_3 => k_is)
    (case o16_4 => k_is)
    (case o16_5 => k_is)
    (case o16_6 => k_is)
    (case o16_7 => k_is)
    (case o16_8 => k_is)
    (case o16_9 => k_is)
    (case o16_10 => k_is)
    (case o16_11 => k_is)
    (case o16_12 => exact fun _ _ _ _ _ _ us hl => match us, hl with | [_, _], _ => rfl)
    (case v16_1 => k_is)
    (case v16_2 => k_is)
    (case v16_3 => k_is)
    (case v16_4 => k_is)
    (case v16_5 => k_is)
    (case v16_6 => k_is)
    (case v16_7 => k_is)
    (case v16_8 => k_is)
    (case f16_0 => k_is)
    (case o17_1 => k_is)
    (case o17_2 => k_is)
    (case o17_3 => k_is)
    (case o17_4 => k_is)
    (case o17_5 => k_is)
    (case o17_6 => k_is)
    (case o17_7 => k_is)
    (case o17_8 => k_is)
    (case o17_9 => k_is)
    (case o17_10 => k_is)
    (case o17_11 => k_is)
    (case o17_12 => exact fun _ _ _ _ _ _ us hl => match us, hl with | [_, _], _ => rfl)
    (case v17_1 => k_is)
    (case v17_2 => k_is)
    (case v17_3 => k_is)
    (case v17_4 => k_is)
    (case v17_5 => k_is)
    (case v17_6 => k_is)
    (case v17_7 => k_is)
    (case v17_8 => k_is)
    (case f17_0 => k_is)
    (case b0 => k_is)
    (case y0 => k_is)
    (case b1 => k_is)
    (case y1 => k_is)
    (case b2 => k_is)
    (case y2 => k_is)
    (case b3 => k_is)
    (case y3 => k_is)
    (case b4 => k_is)
    (case y4 => k_is)
    (case b5 => k_is)
    (case y5 => k_is)
    (case b6 => k_is)
    (case y6 => k_is)
    (case z0 => k_is)
    (case z1 => k_is)
    (case z2 => k_is)
    (case z3 => k_is)
    (case z4 => k_is)
    (case z5 => k_is)
    (case z6 => k_is)
    (case z7 => k_is)
    (case z8 => k_is)
    (case z9 => k_is)
    (case z10 => k_is)
    (case z11 => k_is)
    (case aL => k_is)
    (case aR => k_is)
    (case x0 => k_is)
    (case w0 => k_is)
    (case u0 => k_is)
    (case t0 => k_is)
    (case s0 => exact fun _ _ _ _ _ _ us hl => match us, hl with | [_], _ => rfl)
    (case x1 => k_is)
    (case w1 => k_is)
    (case u1 => k_is)
    (case t1 => k_is)
    (case s1 => exact fun _ _ _ _ _ _ us hl => match us, hl with | [_, _], _ => rfl)
    (case x2 => k_is)
    (case w2 => k_is)
    (case u2 => k_is)
    (case t2 => k_is)
    (case s2 => exact fun _ _ _ _ _ _ us hl => match us, hl with | [_, _], _ => rfl)
    (case x3 => k_is)
    (case w3 => k_is)
    (case u3 => k_is)
    (case t3 => k_is)
    (case s3 => exact fun _ _ _ _ _ _ us hl => match us, hl with | [_, _], _ => rfl)
    (case x4 => k_is)
    (case w4 => k_is)
    (case u4 => k_is)
    (case t4 => k_is)
    (case s4 => exact fun _ _ _ _ _ _ us hl => match us, hl with | [_, _], _ => rfl)
    (case x5 => k_is)
    (case w5 => k_is)
    (case u5 => k_is)
    (case t5 => k_is)
    (case s5 => exact fun _ _ _ _ _ _ us hl => match us, hl with | [_], _ => rfl)
    (case x6 => k_is)
    (case w6 => k_is)
    (case u6 => k_is)
    (case t6 => k_is)
    (case s6 => exact fun _ _ _ _ _ _ us hl => match us, hl with | [_], _ => rfl)
    (case x7 => k_is)
    (case w7 => k_is)
    (case u7 => k_is)
    (case t7 => k_is)
    (case s7 => exact fun _ _ _ _ _ _ us hl => match us, hl with | [_, _], _ => rfl)
    (case x8 => k_is)
    (case w8 => k_is)
    (case u8 => k_is)
    (case t8 => k_is)
    (case s8 => exact fun _ _ _ _ _ _ us hl => match us, hl with | [_, _], _ => rfl)
    (case x9 => k_is)
    (case w9 => k_is)
    (case u9 => k_is)
    (case t9 => k_is)
    (case s9 => exact fun _ _ _ _ _ _ us hl => match us, hl with | [_], _ => rfl)
    (case x10 => k_is)
    (case w10 => k_is)
    (case u10 => k_is)
    (case t10 => k_is)
    (case s10 => exact fun _ _ _ _ _ _ us hl => match us, hl with | [_], _ => rfl)
    (case x11 => k_is)
    (case w11 => k_is)
    (case u11 => k_is)
    (case t11 => k_is)
    (case s11 => exact fun _ _ _ _ _ _ us hl => match us, hl with | [_, _], _ => rfl)
    (case a4 => k_is)
    (case l4 => k_is)
    (case c4 => k_is)
    (case k4 => k_is)
    (case dist => decide +kernel)
