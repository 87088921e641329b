import PyProof.Rows.All
import Wide.All
import OpenK.AllK
import Wide.FinOn
import HandS.ForMost
import HandS.Walk
import HandS.Codes
import HandS.IsInst
import HandS.Defaults
import HandS.Star
import HandS.Flow
import HandS.Style
import HandS.CallLocal
import HandS.More
import HandS.ForExc
import HandS.ExcInit
import HandS.ExcIs
import HandS.ExcField
import KE.KExcIs
import KE.KExcInit
import PySem.Challenge.RW_threereckons_k03_reckoned_under_a_cap
set_option Elab.async false
set_option linter.all false
set_option maxRecDepth 100000
set_option maxHeartbeats 4000000
namespace Thr
open PySem PySem.Spec PyProof.Rows L2
/-! ### heaps -/
theorem same_upd {H : Hp} {p : Addr} {o : HO} (h : H p = none) : Same H (upd H p o) := fun b x e => by
  rw [upd_ne (ne_of_none e h)]
  exact e
/-- all but what stands at a -/
def But (a : Addr) (H H' : Hp) : Prop := ∀ b o, b ≠ a → H b = some o → H' b = some o
theorem But.refl (a : Addr) (H : Hp) : But a H H := fun _ _ _ h => h
theorem But.trans {a : Addr} {H H1 H2 : Hp} (x : But a H H1) (y : But a H1 H2) : But a H H2 := fun b o n h => y b o n (x b o n h)
theorem But.of {a : Addr} {H H' : Hp} (s : Same H H') : But a H H' := fun b o _ h => s b o h
theorem But.upd {a : Addr} {H H' : Hp} {o : HO} (x : But a H H') : But a H (upd H' a o) := fun b u n h => by
  rw [upd_ne n]
  exact x b u n h
theorem But.new {a p : Addr} {H H' : Hp} {o : HO} (x : But a H H') (h : H' p = none) : But a H (L2.upd H' p o) := fun b u n e => by
  have e' := x b u n e
  rw [upd_ne (ne_of_none e' h)]
  exact e'
theorem But.seq {K : PySem.W.Frag} {H H' : Hp} {a b : Addr} {xs : List V} (e : But a H H') (n : b ≠ a) (h : SqL K H b xs) : SqL K H' b xs := by
  rcases h with (h | ⟨o, h⟩) | h
  · exact .inl (.inl (e _ _ n h))
  · exact .inl (.inr ⟨o, e _ _ n h⟩)
  · exact .inr h
/-! ### a def of the top, under its name -/
structure Dd (K : PySem.W.Frag) (mg : Str → Option Value) (x : Str) (st : Stmt) (ps : List Str) : Prop where
  ex : ∃ (f : Addr) (fd : FuncData), L2.Fun K x x st f fd ∧ mg x = some (.ref f) ∧ Binds K fd ps []
section
variable {P : Program} {w : World} {K : PySem.W.Frag} {mg : Str → Option Value} {base : Heap}
theorem Dd.cal {x : Str} {st : Stmt} {N ps : List Str} {k : Nat} {sp : Sp} (D : Dd K mg x st ps) (S : FnScope N ps (defScope st)) (len : ∀ vs H Q E, sp vs H Q E → vs.length = ps.length)
    (hbody : ∀ (f : Addr) (cdv : Value) (A : Around) (outer : List Env) (s : Shared) (H : Hp) (vs : List V) (Q : VK) (E : XK), Room k (A.deeper (envOfC x (defScope st) s.heap.objs.size f cdv)) → sp vs H Q E →
      ∃ t, PSs (cxOf CX0 P w K mg base N x (defScope st) f cdv A outer s H E).nox (defBody st) t ∧ t { nx := fun _ H' => Q .non H', rt := Q } (start N vs) H) : C8.Cal P w K mg base (k + 1) x sp [] := by
  obtain ⟨f, fd, F, g, b⟩ := D.ex
  exact ⟨f, fd, ps, [], F.ok S len (fun cdv A outer s H vs Q E hr h => hbody f cdv A outer s H vs Q E hr h), g, F.kp, b, .nil⟩
end
/-! ### what is drawn from -/
def BoxL (n : Nat) (b : List V) : Prop := ∃ b0 b1 b2 : Int, b = [.int b0, .int b1, .int b2] ∧ 0 ≤ b0 ∧ 0 ≤ b1 ∧ b1 < 4611686018427387904 ∧ 0 ≤ b2 ∧ b2 ≤ n
def spTake : Sp := fun vs H Q _ => ∃ (a : Addr) (many : Int) (n : Nat) (b : List V), vs = [.ref a, .int many] ∧ H a = some (.lst b) ∧ BoxL n b ∧ n < 1000000 ∧ 0 < many ∧ many < 1073741824 ∧
  ∀ (r : Int) (b' : List V), 0 ≤ r → r < many → BoxL (n + 1) b' → Q (.int r) (upd H a (.lst b'))
def spDip (K : PySem.W.Frag) : Sp := fun vs H Q _ => ∃ (a : Addr) (k : Nat) (ns : List Int), vs = [.ref a, .int k] ∧ SqL K H a (ns.map V.int) ∧ k ≤ 63 ∧
  ∀ (p : Addr) (b : List V), H p = none → BoxL 0 b → Q (.ref p) (upd H p (.lst b))
def spFold (K : PySem.W.Frag) : Sp := fun vs H Q _ => ∃ (a : Addr) (size : Nat) (ns : List Int), vs = [.ref a, .int size] ∧ SqL K H a (ns.map V.int) ∧ ns.length ≤ 63 ∧ 1 ≤ size ∧ size ≤ 8 ∧
  ∀ (H' : Hp) (p : Addr) (ms : List Int), Same H H' → H p = none → H' p = some (.lst (ms.map V.int)) → ms.length ≤ size → Q (.ref p) H'
/-- the built-in names that the law uses stand as they were -/
structure Bt (mg : Str → Option Value) : Prop where
  len : mg "len" = none
  abs : mg "abs" = none
  int : mg "int" = none
  list : mg "list" = none
  enumerate : mg "enumerate" = none
  range : mg "range" = none
theorem cut_len (xs : List V) (lo hi : Option Int) : (cutV xs lo hi).length ≤ xs.length := by
  unfold cutV
  rw [List.length_take, List.length_drop]
  omega
theorem cut_ints (ns : List Int) (lo hi : Option Int) : ∃ ms : List Int, cutV (ns.map V.int) lo hi = ms.map V.int ∧ ms.length ≤ ns.length := by
  refine ⟨(ns.drop (HT.sIx (ns.map V.int).length 0 lo)).take (HT.sIx (ns.map V.int).length (ns.map V.int).length hi - HT.sIx (ns.map V.int).length 0 lo), ?_, ?_⟩
  · unfold cutV
    rw [List.map_take, List.map_drop]
  · rw [List.length_take, List.length_drop]
    omega
theorem cut_to (ns : List Int) (size : Nat) : cutV (ns.map V.int) none (some (size : Int)) = (ns.take size).map V.int := by
  unfold cutV
  rw [HT.sIx_none, show HT.sIx (ns.map V.int).length (ns.map V.int).length (some (size : Int)) = min size (ns.map V.int).length from HT.sIx_nat _ _ size, List.map_take, List.length_map]
  show ((ns.map V.int).drop 0).take (min size ns.length - 0) = _
  rw [List.drop_zero, Nat.sub_zero]
  by_cases h : size ≤ ns.length
  · rw [Nat.min_eq_left h]
  · rw [Nat.min_eq_right (by omega), List.take_of_length_le (by rw [List.length_map]; omega), List.take_of_length_le (by rw [List.length_map]; omega)]
theorem cut_from_nil (ns : List Int) (size : Nat) (h : ns.length ≤ size) (hi : Option Int) : cutV (ns.map V.int) (some (size : Int)) hi = [] := by
  unfold cutV
  rw [show HT.sIx (ns.map V.int).length 0 (some (size : Int)) = min size (ns.map V.int).length from HT.sIx_nat _ _ size, List.drop_eq_nil_of_le (by rw [List.length_map]; omega), List.take_nil]
section
variable {X : Cx} {k j n i : Nat} {x : Str} {sp : Sp} {p pos : Pos} {e : Expr} {es : List Expr} {kws : List Keyword} {t tk : TA} {te : TE} {ks : List Str} {gV : List V → List V → List V}
/-! ### what is never reached -/
theorem pe_never {e : Expr} : PE X e (fun _ _ _ => False) := ⟨fun _ _ _ _ _ _ h => h.elim⟩
theorem pt_never {e : Expr} : PT X e (fun _ _ _ => False) := ⟨fun _ _ _ _ _ _ h => h.elim⟩
/-! ### calls with keywords -/
structure KCal (P : Program) (w : World) (K : PySem.W.Frag) (mg : Str → Option Value) (base : Heap) (k : Nat) (x : Str) (sp : Sp) (n : Nat) (ks : List Str) (gV : List V → List V → List V) : Prop where
  ex : ∃ (f : Addr) (fd : FuncData) (ps : List Str) (g : List Value → List Value → List Value), FnOk P w K mg base CX0 k f fd ps sp ∧ mg x = some (.ref f) ∧ PySem.W.keepIn K (.ref f) = true ∧ KBn K fd ps n ks g gV
theorem pe_kw (c : KCal X.prog X.w X.K X.mg X.base k x sp n ks gV) (hr : Room j X.A) (hk : k ≤ j) (hg : Gl X x) (ha : PA X (e :: es) t) (hkw : PK X kws tk)
    (hall : (backToKw pos (keywordEach kws X.env)).all (·.1.isSome) = true := by rfl) (hks : (backToKw pos (keywordEach kws X.env)).filterMap (·.1) = ks := by rfl)
    (hdb : (x == ("__debug__" : Str)) = false := by decide) (he : starEach (e :: es) X.env = (false, eval e X.env) :: starEach es X.env := by rfl)
    (hpl : ((backTo pos (starEach (e :: es) X.env)).any (·.1) || (backToKw pos (keywordEach kws X.env)).any (·.1.isNone)) = false := by rfl) :
    PE X (.Call (.Name x p) (e :: es) kws pos) (tCallN n ks.length sp gV E0 t tk) := by
  obtain ⟨f, fd, ps, g, F, hm, kp, b⟩ := c.ex
  exact pe_callN F (hr.mono hk) hg hm kp b pass0 ha hkw hall hks hdb he hpl
theorem pe_kw0 (c : KCal X.prog X.w X.K X.mg X.base k x sp 0 ks gV) (hr : Room j X.A) (hk : k ≤ j) (hg : Gl X x) (hkw : PK X kws tk)
    (hall : (backToKw pos (keywordEach kws X.env)).all (·.1.isSome) = true := by rfl) (hks : (backToKw pos (keywordEach kws X.env)).filterMap (·.1) = ks := by rfl)
    (hdb : (x == ("__debug__" : Str)) = false := by decide)
    (hpl : ((backTo pos (starEach [] X.env)).any (·.1) || (backToKw pos (keywordEach kws X.env)).any (·.1.isNone)) = false := by rfl) :
    PE X (.Call (.Name x p) [] kws pos) (tCallN 0 ks.length sp gV E0 tNil tk) := by
  obtain ⟨f, fd, ps, g, F, hm, kp, b⟩ := c.ex
  refine ⟨fun pins s σ H Q I h => ?_⟩
  refine wpAny_Call_Name_kw (ld_glob I hg hm ?_ hdb)
  refine PySem.W.callWith_KW0 (h₀ := X.base) I.ok.mod.kin kp hall ?_ hpl
  refine thn (hkw.run pos pins s σ H _ I h) fun ws s2 ⟨zs, H2, I2, rz, l1, l2, q2⟩ => ⟨I2.kIn, ?_⟩
  rw [hks]
  exact run_fnN (us := []) (vs := []) F (hr.mono hk) b pass0 I2 .nil rz rfl l2 q2
/-! ### x(*y), x a local name that holds a def -/
def tCallHS (P : Program) (w : World) (K : PySem.W.Frag) (mg : Str → Option Value) (base : Heap) (k i : Nat) (te : TE) : TE := fun σ H Q => ∃ f sp, σ[i]? = some (some (.ref f)) ∧ Held P w K mg base k f sp ∧
  te σ H fun y H1 => ∃ a xs, y = V.ref a ∧ (SqT K H1 a xs ∨ SqL K H1 a xs) ∧ sp xs H1 Q (fun _ _ _ => False)
theorem pe_callHS {sp_ : Pos} (hr : Room k X.A) (hN : X.N[i]? = some x) (hv : Vis X.env.scope x) (he : PE X e te)
    (hdb : (x == ("__debug__" : Str)) = false := by decide) (hcd : (x == ("__classdict__" : Str)) = false := by decide)
    (hst : starEach [.Starred e sp_] X.env = [(true, eval e X.env)] := by rfl) :
    PE X (.Call (.Name x p) [.Starred e sp_] [] pos) (tCallHS X.prog X.w X.K X.mg X.base k i te) := by
  refine ⟨fun pins s σ H Q I h => ?_⟩
  obtain ⟨f, sp, hs, hH, ht⟩ := h
  obtain ⟨fd, ps, F, hk, hb⟩ := hH.ex
  refine wpAny_Call_Name_kw (thn ((pe_var (pos := p) hN hv hdb hcd).run pins s σ H (fun v H1 => v = .ref f ∧ H1 = H) I ⟨.ref f, hs, rfl, rfl⟩) fun u s1 ⟨v, H1, I1, r1, q1⟩ => ?_)
  obtain ⟨rfl, rfl⟩ := q1
  cases r1
  refine PySem.W.callWith_S (h₀ := X.base) I.ok.mod.kin hk (thn (he.run pins s1 σ _ _ I1 ht) fun v s2 ⟨y, H2, I2, ry, a, xs, ey, hxs, q⟩ => ?_) hst
  subst ey
  obtain rfl : v = Value.ref a := ry
  refine StX.star_any I2 hxs fun us s3 I3 rv => ⟨I3.kIn, ?_⟩
  exact run_fn (E := fun _ _ _ => False) F hr hb .nil (fun _ _ _ _ _ _ _ z => z.elim) I3 rv (by rw [List.append_nil]; exact q)
end
section
variable {K : PySem.W.Frag} {x qual : Str} {params : Arguments} {body : List Stmt} {scope : Scope} {kws : List (Str × V)} {f : Addr} {fd : FuncData} {ps : List Str}
/-- keywords, and keyword-only defaults for those that lack; no other defaults -/
theorem kbinds0 (F : FunD K x qual params body scope [] kws f fd) (n : Nat) (ks : List Str) (g : {α : Type} → List α → List α → List α → List α) (hk : kws ≠ [])
    (hrel : ∀ {vs mz zs : List V} {us mv ws : List Value}, Vals vs us → Vals mz mv → Vals zs ws → Vals (g vs mz zs) (g us mv ws))
    (h : ∀ (D : Addr) (doc pm : Value) (an : Option Addr) (cdv ct : Value) (us mv ws : List Value), us.length = n → mv.length = kws.length → ws.length = ks.length →
      KwChain D ((kws.map (·.1)).zip mv) (bindArgs (PySem.W.fnOf x qual params body scope .none (.ref D) doc pm an cdv ct) ⟨us, ks.zip ws⟩) (ps.zip (g us mv ws))) :
    ∃ mv : List Value, KBn K fd ps n ks (fun us ws => g us mv ws) (fun vs zs => g vs (kws.map (·.2)) zs) := by
  obtain ⟨oc, od, dV, kV, doc, pm, an, cdv, ct, osl, rfl, lk, hcd, hD, hK⟩ := F.ex
  rcases hD with ⟨_, rfl⟩ | ⟨e, _⟩
  · rcases hK with e | ⟨D, rfl, hq⟩
    · exact absurd e hk
    · obtain ⟨mv, hl, rk, hks⟩ := kwd_vals hq
      refine ⟨mv, ⟨fun s us ws X l1 l2 => ?_, fun r1 r2 => hrel r1 rk r2⟩⟩
      exact BindsTo.of_looks fun M => KwChain.looks X hks (h D doc pm an cdv ct us mv ws l1 hl l2)
  · exact absurd rfl e
/-- keywords alone, every parameter named or placed -/
theorem kbindsN (F : FunD K x qual params body scope [] kws f fd) (n : Nat) (ks : List Str) (g : {α : Type} → List α → List α → List α)
    (hrel : ∀ {vs zs : List V} {us ws : List Value}, Vals vs us → Vals zs ws → Vals (g vs zs) (g us ws))
    (h : ∀ (kV doc pm : Value) (an : Option Addr) (cdv ct : Value) (us ws : List Value), us.length = n → ws.length = ks.length →
      bindArgs (PySem.W.fnOf x qual params body scope .none kV doc pm an cdv ct) ⟨us, ks.zip ws⟩ = pure (ps.zip (g us ws))) :
    KBn K fd ps n ks (fun us ws => g us ws) (fun vs zs => g vs zs) := by
  obtain ⟨oc, od, dV, kV, doc, pm, an, cdv, ct, osl, rfl, lk, hcd, hD, hK⟩ := F.ex
  rcases hD with ⟨_, rfl⟩ | ⟨e, _⟩
  · exact ⟨fun s us ws X l1 l2 => .of_eq (h kV doc pm an cdv ct us ws l1 l2), fun r1 r2 => hrel r1 r2⟩
  · exact absurd rfl e
end
/-! ### d.update(e) -/
def rDUpd : V → List V → Hp → VK → Prop := fun x vs H Q => ∃ (a b : Addr) (kvs more : List (Key × V)), x = .ref a ∧ vs = [.ref b] ∧ a ≠ b ∧ H a = some (.dK kvs) ∧ H b = some (.dK more) ∧ kvs.length + more.length ≤ 1000 ∧ Q .non (upd H a (.dK (mergeK kvs more)))
theorem mtd_update {X : Cx} : MtR X "dict.update" rDUpd := by
  intro pins s σ H x vs v us Q I rx rv h
  obtain ⟨a, b, kvs, more, ex, ev, nab, ea, eb, hz, q⟩ := h
  subst ex
  subst ev
  obtain rfl : v = Value.ref a := rx
  obtain ⟨u, eu, ru⟩ := rv.one
  subst eu
  obtain rfl : u = Value.ref b := ru
  obtain ⟨z1, ls1, vs1, r1, d1⟩ := I.hok a _ ea
  obtain ⟨z2, ls2, vs2, r2, d2⟩ := I.hok b _ eb
  have l1 : kvs.length = vs1.length := Paired.length r1
  have l2 : more.length = vs2.length := Paired.length r2
  refine call_meetsIn PySem.F.slot_dict_update d1.typeIs PySem.F.entry_dict_update (PySem.F.args_dict_update_2 _ _) (meets_dict_update (mixKind X.prog X.w) a b nab ls2)
    ⟨vs1, vs2, d1, d2, (by rw [← l1, ← l2]; exact Nat.le_trans hz (by decide)), fun h' hm _ hs => ?_⟩
  refine ⟨.non, upd H a (.dK (mergeK kvs more)), ?_, rfl, q⟩
  have hlen : (mergeK kvs more).length ≤ sizeLine := by
    have := length_mergeK more kvs
    have h2 : (1000 : Nat) ≤ sizeLine := by decide
    omega
  obtain ⟨oo, es', ep', ho', _⟩ := id hm
  exact I.write (t' := s.toks) (e := a) (o := .dK (mergeK kvs more)) (by rw [ea]; trivial) (.inl rfl) (fun c u nc e => (hs.2 c nc).trans e) ⟨oo, ho'⟩ ⟨hlen, ls1, merged vs1 vs2, KV.merge r2 r1, hm⟩
/-! ### an exception that is held as a value: its class, its own dict -/
def exv (a C d : Addr) : HO := .ext fun g => ∃ ob fv, g.get? a = some ob ∧ ob.cls = .ref C ∧ ob.dict = some d ∧ ob.data = .fields fv
theorem exv_ok {P : Program} {w : World} {H : Hp} {g : Heap} {a C d : Addr} {ob : Obj} {fv : Array Value} (h1 : g.get? a = some ob) (h2 : ob.cls = .ref C) (h3 : ob.dict = some d) (h4 : ob.data = .fields fv) : ObjOk P w H g a (exv a C d) :=
  ⟨⟨ob, fv, h1, h2, h3, h4⟩, ⟨ob, h1⟩, fun g1 g2 ⟨o2, f2, e1, e2, e3, e4⟩ k => ⟨o2, f2, k _ e1, e2, e3, e4⟩⟩
theorem exv_at {P : Program} {w : World} {H : Hp} {g : Heap} {a C d : Addr} (ok : HOk P w H g) (e : H a = some (exv a C d)) : ∃ ob fv, g.get? a = some ob ∧ ob.cls = .ref C ∧ ob.dict = some d ∧ ob.data = .fields fv := by
  have z : ObjOk P w H g a (.ext fun g => ∃ ob fv, g.get? a = some ob ∧ ob.cls = .ref C ∧ ob.dict = some d ∧ ob.data = .fields fv) := ok a _ e
  exact z.1
section
variable {X : Cx} {pins : List (Addr × Obj)} {σ : L2.St} {H : Hp} {s : Shared}
/-- an object that was made here and is not yet tracked is tracked from now on -/
theorem inv_track {a : Addr} {u : HO} (I : Inv X pins σ H s) (na : H a = none) (nw : ∀ o, X.s_0.heap.get? a ≠ some o) (nL : a ≠ X.env.locals) (nC : ∀ x c, X.env.cells.lookup x = some c → c ≠ a) (nP : ∀ p ∈ X.pn ++ pins, p.1 ≠ a)
    (new : ObjOk X.prog X.w (upd H a u) s.heap a u) : Inv X pins σ (upd H a u) s where
  ok := I.ok
  os := I.os
  bare := I.bare
  base := {
    keep := I.base.keep
    slot := I.base.slot
    free := fun b o e n hx => by
      have nb : b ≠ a := fun z => nw o (z ▸ e)
      rw [upd_ne nb]
      exact I.base.free b o e n hx
    there := I.base.there
    tups := fun b xs e => by
      have e' := I.base.tups b xs e
      rw [upd_ne (ne_of_none e' na)]
      exact e'
    frzs := fun b o xs e => by
      have e' := I.base.frzs b o xs e
      rw [upd_ne (ne_of_none e' na)]
      exact e'
    tbls := fun b ps e => by
      obtain ⟨m, e'⟩ := I.base.tbls b ps e
      exact ⟨m, by rw [upd_ne (ne_of_none e' na)]; exact e'⟩ }
  loc := I.loc
  cell := I.cell
  free := by
    rw [upd_ne (Ne.symm nL)]
    exact I.free
  freeC := fun x c e => by
    rw [upd_ne (nC x c e)]
    exact I.freeC x c e
  pin := fun p hp => by
    obtain ⟨p1, p2, p3⟩ := I.pin p hp
    exact ⟨p1, by rw [upd_ne (nP p hp)]; exact p2, p3⟩
  hok := fun b o e => by
    by_cases hb : b = a
    · subst hb
      rw [upd_same] at e
      cases e
      exact new
    · rw [upd_ne hb] at e
      exact (I.hok b o e).stay (fun _ _ _ z => z) (fun c z => by rw [upd_ne (ne_of_none z na)]; exact z) (fun c xs z => by rw [upd_ne (ne_of_none z na)]; exact z)
  len := I.len
end
/-- what 'except x as n' wishes, where the exception is tracked behind the suite -/
def wKeep (K : PySem.W.Frag) (c : Value) (i : Nat) (ts : Addr → Value → Option Addr → TS) (Wout : WX) (D : Ends) : WX := fun cls d σ H =>
  ∃ (C dd : Addr) (b : Bool), cls = .ref C ∧ d = some dd ∧ PySem.W.exmOne K cls c = some b ∧
    (b = true → ∀ a, H a = none → ts a cls d { nx := fun σ2 H2 => D.nx (σ2.set i none) (upd H2 a (exv a C dd)), rt := D.rt, bk := fun _ _ => False, ct := fun _ _ => False } (σ.set i (some (.ref a))) H) ∧ (b = false → Wout cls d σ H)
section
variable {X : Cx} {x n : Str} {c : Value} {i : Nat} {body suite : List Stmt} {b0 : Stmt} {np pos pos' : Pos} {tb : WX → TS} {ts : Addr → Value → Option Addr → TS} {Wout : WX}
theorem ps_try_keep (hst : X.stack = X.env :: X.outer) (hfr0 : X.env.frame = some X.env.locals) (hex : X.ex = []) (nd : X.N.Nodup) (hi : X.N[i]? = some n) (hk : X.env.kindOf n = some .local) (hnm : Names X x c) (tk : Takes X Wout)
    (hbody : ∀ (W : WX) (pn : List (Addr × Obj)) (xe : Value → Shared → Prop), Takes (X.tr pn xe) W → PassesOwn (model X.prog X.w) X.A X.env xe → PSs (X.tr pn xe) body (tb W))
    (hsuite : ∀ (a : Addr) (oe : Obj) (cls : Value) (d : Option Addr) (pn : List (Addr × Obj)), Zc cls d oe → (∃ vs, oe.data = .fields vs) → PSs (X.suite a ((a, oe) :: pn)) (b0 :: suite) (ts a cls d)) :
    PS X (.Try body [.ExceptHandler (some (.Name x np)) (some n) (b0 :: suite) pos'] [] [] pos) (fun D σ H => tb (wKeep X.K c i ts Wout D) D σ H) := by
  refine ⟨fun pins s σ H D I rd => ?_⟩
  have okX := I.ok
  have hA : X.A.frames = some (X.env :: X.outer) := okX.frames.trans (congrArg some hst)
  refine wpAny_Try_except (wpAny_mono ((hbody (wKeep X.K c i ts Wout D) (X.pn ++ pins)
    (fun e s1 => wpAny (model X.prog X.w) X.A (noteFrame e X.env) (fun _ s2 => wpAny (model X.prog X.w) X.A (setFlight e none) (fun _ s3 => wpAny (model X.prog X.w) X.A (handleBy e X.env [.ExceptHandler (some (.Name x np)) (some n) (b0 :: suite) pos']) (SP X pins D) X.xe s3) X.xe s2) X.xe s1)
    (fun u t xx => ?_) PassesOwn.looking).run [] s σ H D (I.toTry _) rd) (fun fl s1 hfl => ?_) (fun _ _ z => z))
  · obtain ⟨a, G, sI, pins2, σ2, H2, cls, d, eu, J0, inG, upS, sky0, na, eos, bare, C, dd, b, ecls, ed, hexm, hyes, hno⟩ := xx
    subst eu
    subst ecls
    subst ed
    have J : Inv X pins σ2 H2 sI := J0.ofTry okX
    rw [hst] at sky0
    refine Sky.land Zc.steady hA hfr0 sky0 fun g3 fly3 up3 => ?_
    have J3 : Inv X pins σ2 H2 { t with heap := g3 } := J.landed inG fly3.1 (upS.trans up3) eos bare
    obtain ⟨o3, f3, at3, z3, dat3⟩ := fly3.there
    have offF : a ∉ frs (X.env :: X.outer) := fun hm => by
      obtain ⟨_, ob, eo, nof⟩ := fly3.2.2.1.mem hm
      have eq : o3 = ob := Option.some.inj (at3.symm.trans eo)
      exact nof _ (eq ▸ dat3)
    have nLoc : a ≠ X.env.locals := fun z => offF (List.mem_filterMap.mpr ⟨X.env, List.mem_cons_self, by rw [hfr0, z]⟩)
    have nFs : a ∉ X.fs := fun hm => by
      obtain ⟨ev, hev, qe⟩ := List.mem_filterMap.mp hm
      exact offF (List.mem_filterMap.mpr ⟨ev, List.mem_cons_of_mem _ hev, qe⟩)
    have outG : G.get? a = none := fly3.2.1
    have outI : ∀ o, sI.heap.get? a ≠ some o := fun o z => by
      have z2 := inG a o z (by rw [hst]; exact offF)
      rw [outG] at z2
      cases z2
    have out0 : ∀ o, X.s_0.heap.get? a ≠ some o := fun o z => by
      obtain ⟨o', z2⟩ := J.base.there a o z (by rw [hex]; exact List.not_mem_nil)
      exact outI o' z2
    have noPin : ∀ p ∈ X.pn ++ pins, p.1 ≠ a := fun p hp z => outI p.2 (z ▸ (J.pin p hp).1)
    refine wpAny_handleBy_cons (codeAny_handlers_test ?_) (fun q => by cases q)
    have isT : PySem.W.Looks (model X.prog X.w) g3 (typeOf (.ref a)) (.ref C) := fun _ _ _ _ kp q => wpAny_typeOf_ref (kp _ _ at3) (by rw [z3.1]; exact q)
    have asks := PySem.W.exm_one (M := model X.prog X.w) J3.kIn isT hexm
    have S3 := J3.suite at3 dat3 na nLoc nFs
    have named : ∀ {Q E : Value → Shared → Prop}, Q c { t with heap := g3 } → wpAny (model X.prog X.w) (X.A.mark (some (.ref a))) (eval (.Name x np) X.env) Q E { t with heap := g3 } := fun {Q E} q => by
      obtain ⟨gl, db, way⟩ := hnm
      rcases way with m1 | ⟨m1, m2, m3⟩
      · exact ld_glob (X := X.suite a ((a, o3) :: (X.pn ++ pins))) S3 gl m1 q db
      · exact ld_blt (X := X.suite a ((a, o3) :: (X.pn ++ pins))) S3 gl m1 m2 q m3 db
    refine named (asks.here ?_)
    cases b with
    | true =>
      refine codeAny_handlers_suite_as (HandSPX.lands_againZ fly3 fun g4 fly4 up4 => ?_)
      have J4 : Inv X pins σ2 H2 { t with heap := g4 } := J.landed inG fly4.1 ((upS.trans up3).trans up4) eos bare
      obtain ⟨o4, f4, at4, z4, dat4⟩ := fly4.there
      have S4 := J4.suite at4 dat4 na nLoc nFs
      refine store_ok (X := X.suite a ((a, o4) :: (X.pn ++ pins))) (v := .ref a) S4 nd hi (.inl hk) rfl (fun s5 S5 => ?_) (.inr hk)
      refine wpAny_mono ((hsuite a o4 (.ref C) (some dd) (X.pn ++ pins) z4 ⟨_, dat4⟩).run [] s5 _ H2 _ S5 (hyes rfl a na)) (fun fl s6 hfl => ?_) (fun _ _ z => z.elim)
      cases fl with
      | next =>
        obtain ⟨σ6, H6, S6, q6⟩ := hfl
        refine gone_ok (X := X.suite a ((a, o4) :: (X.pn ++ pins))) S6 nd hi hk fun s7 S7 => ?_
        obtain ⟨at7, na7, _, _, nc7⟩ := S7.pin (a, o4) (by rw [List.append_nil]; exact List.mem_cons_self)
        have J7 : Inv X pins (σ6.set i none) H6 s7 := S7.unsuite okX
        refine ⟨_, _, inv_track (u := exv a C dd) J7 na7 out0 nLoc (fun y cc e z => ?_) noPin (exv_ok at7 z4.1 z4.2 dat4), q6⟩
        obtain ⟨vv, oc, ec, dc⟩ := J7.cell y cc e
        rw [z, at7] at ec
        cases ec
        rw [dat4] at dc
        cases dc
      | ret u =>
        obtain ⟨v6, σ6, H6, S6, r6, q6⟩ := hfl
        exact gone_ok (S6.unsuite okX) nd hi hk fun s7 J7 => ⟨_, _, _, J7, r6, q6⟩
      | brk =>
        obtain ⟨_, _, _, q6⟩ := hfl
        exact q6.elim
      | cont =>
        obtain ⟨_, _, _, q6⟩ := hfl
        exact q6.elim
    | false =>
      refine wpAny_handleBy_nil ?_
      obtain ⟨_, _, _, ob, fv, T, oT, _, eo, _, dat, h1, _⟩ := id fly3
      unfold PySem.passOn
      refine wpAny_bind (wpAny_field eo dat h1 ?_)
      rw [if_neg (show ¬ ((Value.ref T == Value.none) = true) by simp)]
      have leave : wpAny (model X.prog X.w) X.A (setFlight (.ref a) X.env.frame) (fun _ s4 => wpAny (model X.prog X.w) X.A (throw (.ref a) : Sem Flow) (SP X pins D) X.xe s4) X.xe { t with heap := g3 } := by
        rw [hfr0]
        refine HandSPX.setFlight_upZ fly3 fun g4 held4 up4 => wpAny_throw (tk _ _ ⟨a, G, sI, pins, σ2, H2, .ref C, some dd, rfl, J, inG, (upS.trans up3).trans up4, .inr (.inr ?_), na, eos, bare, hno rfl⟩)
        rw [hst]
        exact held4
      first
        | exact wpAny_bind (wpAny_pure (wpAny_bind leave))
        | exact wpAny_bind leave
  · cases fl with
    | next =>
      obtain ⟨σ1, H1, J1, q1⟩ := hfl
      exact wpAny_execs_nil ⟨_, _, J1.ofTry okX, q1⟩
    | brk =>
      obtain ⟨σ1, H1, J1, q1⟩ := hfl
      exact ⟨_, _, J1.ofTry okX, q1⟩
    | cont =>
      obtain ⟨σ1, H1, J1, q1⟩ := hfl
      exact ⟨_, _, J1.ofTry okX, q1⟩
    | ret u =>
      obtain ⟨v1, σ1, H1, J1, r1, q1⟩ := hfl
      exact ⟨_, _, _, J1.ofTry okX, r1, q1⟩
end
/-! ### what such a value bears, and of which class it is -/
structure XvC (K : PySem.W.Frag) (C : Addr) : Prop where
  ga : PySem.W.findIn K (.ref C) "__getattribute__" = some (some (.builtin "BaseException.__getattribute__"))
  gg : PySem.W.findIn K (.ref C) "__getattr__" = some none
  sb : PySem.W.subIn K (.ref C) (.type "BaseException") = some true
  hd : PySem.W.hasDictIn K C = true
  kl : PySem.W.findIn K (.ref C) "__class__" = some (some (.builtin "object.__class__"))
  kg : PySem.W.specialIn K (.builtin "object.__class__") "__get__" = some (some (.builtin "getset_descriptor.__get__"))
  kt : PySem.W.takesIn K (.builtin "object.__class__") = some true
  ob : PySem.W.mroIn K C (.type "object") = some true
def tXv (K : PySem.W.Frag) (f : Str) (te : TE) : TE := fun σ H Q => te σ H fun y H1 => ∃ (a C d : Addr) (fs : List (Str × V)) (v : V), y = .ref a ∧ H1 a = some (exv a C d) ∧ XvC K C ∧ PySem.W.findIn K (.ref C) f = some none ∧ H1 d = some (.xd fs) ∧ fs.lookup f = some v ∧ Q v H1
theorem inst_of {X : Cx} {pins : List (Addr × Obj)} {σ : L2.St} {H : Hp} {s : Shared} {a C d : Addr} {fs : List (Str × V)} (I : Inv X pins σ H s) (ea : H a = some (exv a C d)) (ed : H d = some (.xd fs)) :
    ∃ (ob od : Obj) (mA : Str → Option Value), PySem.W.InstAt s.heap a ob C (some od) ∧ (∀ f, RelO (fs.lookup f) (mA f)) ∧ ∀ nm, PySem.W.lookIn nm od = some (mA nm) := by
  obtain ⟨ob, fv, h1, h2, h3, h4⟩ := exv_at I.hok ea
  obtain ⟨mA, hns, hr⟩ : ObjOk X.prog X.w H s.heap d (.xd fs) := I.hok d _ ed
  obtain ⟨od, ho, hl⟩ := lookIn_ns hns
  refine ⟨ob, od, mA, ⟨h1, h2, ?_, ?_⟩, hr, hl⟩
  · unfold PySem.W.notCls
    rw [h4]
  · rw [h3]
    exact ho
theorem pe_xv {X : Cx} {e : Expr} {te : TE} {pos : Pos} {f : Str} (he : PE X e te) (hb : attributeBase e f X.env (eval e X.env) = eval e X.env := by rfl) : PE X (.Attribute e f pos) (tXv X.K f te) := by
  refine ⟨fun pins s σ H Q I rd => attr_of hb (thn (he.run pins s σ H _ I rd) fun u s1 hh => ?_)⟩
  obtain ⟨y, H1, I1, ry, a, C, d, fs, v, ey, ea, T, hno, ed, hl, q⟩ := hh
  subst ey
  obtain rfl : u = Value.ref a := ry
  obtain ⟨ob, od, mA, J, hr, hlk⟩ := inst_of I1 ea ed
  obtain ⟨u2, e2, r2⟩ := RelO.some_of (v := v) (o := mA f) (by rw [← hl]; exact hr f)
  exact HandSPX.exc_get I1.kIn J T.ga T.gg T.sb (PySem.W.findObj_own T.hd hno rfl (by rw [hlk, e2])) (handed_of r2) ⟨v, H1, I1.tok _, r2, q⟩
/-- isinstance(e, c) -/
def rXvI (K : PySem.W.Frag) : List V → Hp → VK → Prop := fun xs H Q => ∃ (a C d : Addr) (fs : List (Str × V)) (c : V) (cu : Value) (b : Bool), xs = [.ref a, c] ∧ H a = some (exv a C d) ∧ XvC K C ∧ H d = some (.xd fs) ∧ ClsV c cu ∧ PySem.W.kitOne K (.ref C) cu = some b ∧ Q (.bl b) H
theorem call_isXv {X : Cx} : CallR X (.builtin "isinstance") (rXvI X.K) := by
  intro pins s σ H xs us Q I r h
  obtain ⟨a, C, d, fs, c, cu, b, rfl, ea, T, ed, hc, hk, q⟩ := h
  cases r with
  | cons r1 rr =>
    cases rr with
    | cons r2 r3 =>
      cases r3
      cases r1
      have ec := hc.eq r2
      subst ec
      obtain ⟨ob, od, mA, J, hr, hlk⟩ := inst_of I ea ed
      have hcl : (PySem.W.clsIn X.K C).isSome = true := by
        obtain ⟨cd, e1, _⟩ := PySem.W.any_some T.hd
        rw [e1]
        rfl
      exact PySem.W.kia_one (PySem.W.kitx_exc hcl T.ga T.gg T.sb T.kl T.kg T.kt T.ob) I.kIn J hk (fun z => nomatch z) fun tk => ⟨.bl b, H, I.kept (t' := tk) fun _ _ z => z, rfl, q⟩
/-- isinstance(e, (c1, c2, ..)) -/
def rXvT (K : PySem.W.Frag) : List V → Hp → VK → Prop := fun xs H Q => ∃ (a C d tp : Addr) (fs : List (Str × V)) (cs : List V) (cu : List Value) (b : Bool), xs = [.ref a, .ref tp] ∧ H a = some (exv a C d) ∧ XvC K C ∧ H d = some (.xd fs) ∧ H tp = some (.tup cs) ∧ Paired ClsV cs cu ∧
  PySem.W.kitAny K (.ref C) cu = some b ∧ Q (.bl b) H
theorem call_isXvT {X : Cx} : CallR X (.builtin "isinstance") (rXvT X.K) := by
  intro pins s σ H xs us Q I r h
  obtain ⟨a, C, d, tp, fs, cs, cu, b, rfl, ea, T, ed, et, hc, hk, q⟩ := h
  cases r with
  | cons r1 rr =>
    cases rr with
    | cons r2 r3 =>
      cases r3
      cases r1
      cases r2
      obtain ⟨ob, od, mA, J, hr, hlk⟩ := inst_of I ea ed
      have hcl : (PySem.W.clsIn X.K C).isSome = true := by
        obtain ⟨cd, e1, _⟩ := PySem.W.any_some T.hd
        rw [e1]
        rfl
      obtain ⟨hz, its, rv, ⟨c5, d5, t5, s5⟩, p1, p2, n5, p3⟩ : ObjOk X.prog X.w H s.heap tp (.tup cs) := I.hok tp _ et
      have ei := ClsV.all hc rv
      subst ei
      dsimp only at p2 p3
      subst p2 p3
      exact PySem.W.kia_tup (PySem.W.kitx_exc hcl T.ga T.gg T.sb T.kl T.kg T.kt T.ob) I.kIn J p1 hk (fun z => nomatch z) fun tk => ⟨.bl b, H, I.kept (t' := tk) fun _ _ z => z, rfl, q⟩
/-! ### calls with keywords of a def that may let an error out -/
structure KCalX (P : Program) (w : World) (K : PySem.W.Frag) (mg : Str → Option Value) (base : Heap) (k : Nat) (x : Str) (sp : Sp) (n : Nat) (ks : List Str) (gV : List V → List V → List V) : Prop where
  ex : ∃ (f : Addr) (fd : FuncData) (ps : List Str) (g : List Value → List Value → List Value), FnOk P w K mg base (L2.CX P w) k f fd ps sp ∧ mg x = some (.ref f) ∧ PySem.W.keepIn K (.ref f) = true ∧ KBn K fd ps n ks g gV
structure CalX (P : Program) (w : World) (K : PySem.W.Frag) (mg : Str → Option Value) (base : Heap) (k : Nat) (x : Str) (sp : Sp) (dvs : List V) : Prop where
  ex : ∃ (f : Addr) (fd : FuncData) (ps : List Str) (ds : List Value), FnOk P w K mg base (L2.CX P w) k f fd ps sp ∧ mg x = some (.ref f) ∧ PySem.W.keepIn K (.ref f) = true ∧ Binds K fd ps ds ∧ Vals dvs ds
theorem passX {X : Cx} : Passes (L2.CX X.prog X.w) X (fun _ _ _ => False) := fun _ _ _ _ _ _ _ h => by
  obtain ⟨_, _, _, _, _, _, _, _, _, _, _, _, z⟩ := h
  exact z.elim
section
variable {X : Cx} {k j n : Nat} {x : Str} {sp : Sp} {p pos : Pos} {e : Expr} {es : List Expr} {kws : List Keyword} {t tk : TA} {ks : List Str} {gV : List V → List V → List V} {dvs : List V}
theorem pe_cX (c : CalX X.prog X.w X.K X.mg X.base k x sp dvs) (hr : Room j X.A) (hk : k ≤ j) (hg : Gl X x) (ha : PA X (e :: es) t)
    (hdb : (x == ("__debug__" : Str)) = false := by decide) (he : starEach (e :: es) X.env = (false, eval e X.env) :: starEach es X.env := by rfl) (hpl : (backTo pos (starEach es X.env)).any (·.1) = false := by rfl) :
    PE X (.Call (.Name x p) (e :: es) [] pos) (tCall sp dvs (fun _ _ _ => False) t) := by
  obtain ⟨f, fd, ps, ds, F, hm, kp, b, d⟩ := c.ex
  exact pe_call F (hr.mono hk) hg hm kp b d passX ha hdb he hpl
theorem pe_kwX (c : KCalX X.prog X.w X.K X.mg X.base k x sp n ks gV) (hr : Room j X.A) (hk : k ≤ j) (hg : Gl X x) (ha : PA X (e :: es) t) (hkw : PK X kws tk)
    (hall : (backToKw pos (keywordEach kws X.env)).all (·.1.isSome) = true := by rfl) (hks : (backToKw pos (keywordEach kws X.env)).filterMap (·.1) = ks := by rfl)
    (hdb : (x == ("__debug__" : Str)) = false := by decide) (he : starEach (e :: es) X.env = (false, eval e X.env) :: starEach es X.env := by rfl)
    (hpl : ((backTo pos (starEach (e :: es) X.env)).any (·.1) || (backToKw pos (keywordEach kws X.env)).any (·.1.isNone)) = false := by rfl) :
    PE X (.Call (.Name x p) (e :: es) kws pos) (tCallN n ks.length sp gV (fun _ _ _ => False) t tk) := by
  obtain ⟨f, fd, ps, g, F, hm, kp, b⟩ := c.ex
  exact pe_callN F (hr.mono hk) hg hm kp b passX ha hkw hall hks hdb he hpl
theorem pe_kw0X (c : KCalX X.prog X.w X.K X.mg X.base k x sp 0 ks gV) (hr : Room j X.A) (hk : k ≤ j) (hg : Gl X x) (hkw : PK X kws tk)
    (hall : (backToKw pos (keywordEach kws X.env)).all (·.1.isSome) = true := by rfl) (hks : (backToKw pos (keywordEach kws X.env)).filterMap (·.1) = ks := by rfl)
    (hdb : (x == ("__debug__" : Str)) = false := by decide)
    (hpl : ((backTo pos (starEach [] X.env)).any (·.1) || (backToKw pos (keywordEach kws X.env)).any (·.1.isNone)) = false := by rfl) :
    PE X (.Call (.Name x p) [] kws pos) (tCallN 0 ks.length sp gV (fun _ _ _ => False) tNil tk) := by
  obtain ⟨f, fd, ps, g, F, hm, kp, b⟩ := c.ex
  refine ⟨fun pins s σ H Q I h => ?_⟩
  refine wpAny_Call_Name_kw (ld_glob I hg hm ?_ hdb)
  refine PySem.W.callWith_KW0 (h₀ := X.base) I.ok.mod.kin kp hall ?_ hpl
  refine thn (hkw.run pos pins s σ H _ I h) fun ws s2 ⟨zs, H2, I2, rz, l1, l2, q2⟩ => ⟨I2.kIn, ?_⟩
  rw [hks]
  exact run_fnN (us := []) (vs := []) F (hr.mono hk) b passX I2 .nil rz rfl l2 q2
/-- what it lets out is wished for at the caller's slots -/
def tCallNT (n m : Nat) (sp : Sp) (gV : List V → List V → List V) (W : WX) (t tk : TA) : TE := fun σ H Q => t σ H fun vs H1 => tk σ H1 fun zs H2 => vs.length = n ∧ zs.length = m ∧ sp (gV vs zs) H2 Q (WE W σ)
theorem pe_kwT {W : WX} (c : KCalX X.prog X.w X.K X.mg X.base k x sp n ks gV) (hr : Room j X.A) (hk : k ≤ j) (hg : Gl X x) (tkw : Takes X W) (ha : PA X (e :: es) t) (hkw : PK X kws tk)
    (hall : (backToKw pos (keywordEach kws X.env)).all (·.1.isSome) = true := by rfl) (hks : (backToKw pos (keywordEach kws X.env)).filterMap (·.1) = ks := by rfl)
    (hdb : (x == ("__debug__" : Str)) = false := by decide) (he : starEach (e :: es) X.env = (false, eval e X.env) :: starEach es X.env := by rfl)
    (hpl : ((backTo pos (starEach (e :: es) X.env)).any (·.1) || (backToKw pos (keywordEach kws X.env)).any (·.1.isNone)) = false := by rfl) :
    PE X (.Call (.Name x p) (e :: es) kws pos) (tCallNT n ks.length sp gV W t tk) := by
  obtain ⟨f, fd, ps, g, F, hm, kp, b⟩ := c.ex
  refine ⟨fun pins s σ H Q I h => ?_⟩
  refine wpAny_Call_Name_kw (ld_glob I hg hm ?_ hdb)
  refine PySem.W.callWith_KW (h₀ := X.base) I.ok.mod.kin kp hall (thn (ha.run pos pins s σ H _ I h) fun us s1 ⟨vs, H1, I1, r, q⟩ => ?_) hpl he
  refine thn (hkw.run pos pins s1 σ H1 _ I1 q) fun ws s2 ⟨zs, H2, I2, rz, l1, l2, q2⟩ => ⟨I2.kIn, ?_⟩
  rw [hks]
  have r2 := b.rel r rz
  refine wpAny_call (codeAny_mono (F.run X.A X.stack s2 H2 ⟨us, ks.zip ws⟩ (g us ws) (gV vs zs) Q (WE W σ) (hr.mono hk) I2.env0 (b.to s2 us ws I2.kIn (r.length.symm.trans l1) (rz.length.symm.trans l2)) r2 q2) fun res s' hq => ?_)
  cases res with
  | error er => exact passAt tkw σ pins H2 s2 er s' I2 hq
  | ok fl =>
    cases fl with
    | ret u => exact I2.after hq
    | next => exact hq.elim
    | brk => exact hq.elim
    | cont => exact hq.elim
end
end Thr
namespace PySem
namespace Oxb
open PySem.W PySem.Calls PyProof.Rows PySem.HandSPX
section
open Builtin Builtin.ObjectAttr
variable {prog : Program} {w : World} {A : Around} {R : Result → Shared → Prop} {h0 : Heap} {gs : Array GenState} {dr : Drawn} {tn : Nat} {os : OsState}
/-- the mro of such a class lets a field be stored -/
structure MroOk (m : List Value) : Prop where
  pass : ∀ self, refuseLoop self "__setattr__" m = pure ()
  obj : m.contains (.type "object") = true
  full : m.isEmpty = false
theorem sub_obj {K : W.Frag} {e C : Addr} {ob : Obj} {od : Option Obj} {cd : ClassData} (X : K.In h0) (I : W.InstAt h0 e ob C od) (hcd : W.clsIn K C = some cd) (hm : MroOk cd.mro) : W.Looks (model prog w) h0 (isInstance (.ref e) (.type "object")) true := by
  refine I.type.andThen (W.looks_mroIn X ?_)
  unfold W.mroIn
  rw [hcd, Option.bind_some, if_neg (by rw [hm.full]; decide), hm.obj]
/-- the first field: the dict is laid -/
theorem store_first {K : W.Frag} {nm : Str} {tk : Tok} {v : Value} {e C : Addr} {fv : Array Value} {cd : ClassData} (X : K.In h0) (he : h0.get? e = some { cls := .ref C, data := .fields fv }) (hcd : W.clsIn K C = some cd) (hm : MroOk cd.mro) (hh : cd.hasDict = true) (ha : W.findIn K (.ref C) nm = some none)
    (hq : ∀ h1 t1 dx, (∀ b o, b ≠ e → h0.get? b = some o → h1.get? b = some o) → h0.objs.size ≤ dx → dx ≠ e → h1.get? e = some { cls := .ref C, dict := some dx, data := .fields fv } → h1.Ns1 dx (fun y => if y = nm then some v else none) → R (.ok (.ret .none)) ⟨h1, gs, dr, t1, os⟩) :
    codeAny (model prog w) A (.call (.builtin "object.__setattr__") ⟨[.ref e, .str nm tk, v], []⟩) R ⟨h0, gs, dr, tn, os⟩ := by
  have J : W.InstAt h0 e { cls := .ref C, data := .fields fv } C none := ⟨he, rfl, rfl, trivial⟩
  have hes : e ≠ h0.objs.size := Nat.ne_of_lt (Heap.lt_size he)
  have L1 : W.Looks (model prog w) h0 (mroOf (.ref C)) cd.mro := (W.looks_clsIn X hcd).andThen .now
  have L2 : W.Looks (model prog w) h0 (storeTaker? none) none := .now
  have L4 : W.Looks (model prog w) h0 (classData C) cd := W.looks_clsIn X hcd
  refine codeAny_call_builtin F.store_object.slot.plain F.store_object.entry (@W.check_slot (model prog w) _ _ ⟨h0, gs, dr, tn, os⟩ "object.__setattr__" "object" "__setattr__" (.ref e) [.str nm tk, v] [] _ F.store_object.kind F.store_object.split (sub_obj X J hcd hm) (F.store_object.args (.ref e) (.str nm tk) v) ?_)
  rw [W.osa_eq, refuse_eq]
  refine wpAny_bind (wpAny_bind (J.type.at (wpAny_bind (L1.at ?_))))
  rw [hm.pass]
  refine wpAny_pure (wpAny_bind (J.type.at (wpAny_bind ((W.looks_findIn X ha).at (wpAny_bind (L2.at ?_))))))
  show wpAny _ _ (storeInOwnDict (.ref e) (.ref C) (.str nm tk) nm v false) _ _ _
  obtain ⟨c1, c2, c3, c4, c5, c6, c7, c8, c9, c10, c11⟩ := cd
  dsimp only at hh
  subst hh
  unfold storeInOwnDict ownDictForStores
  repeat (first | with_reducible refine store_in_new ?_ ?_ | with_reducible refine wpAny_loadPart_at he ?_ | with_reducible refine L4.at ?_ | wp_step)
  · exact ⟨_, #[], _, (Heap.get?_update_ne _ _ _ _ hes.symm).trans (Heap.get?_push_at rfl rfl), rfl, fun x hx => absurd hx (by simp), fun _ => rfl⟩
  · intro h1 t1 hn hs
    have he1 : (h0.push { cls := .type "dict", data := .dict #[] }).get? e = some { cls := .ref C, data := .fields fv } := Heap.get?_push_of_some _ he
    refine hq h1 t1 h0.objs.size (fun b o hb ho => ?_) (Nat.le_refl _) hes.symm ((hs.2 e hes).trans (Heap.get?_update_self _ he1 rfl)) hn
    exact (hs.2 b (Nat.ne_of_lt (Heap.lt_size ho))).trans ((Heap.get?_update_ne _ _ _ _ hb).trans (Heap.get?_push_of_some _ ho))
/-- a further field -/
theorem store_more {K : W.Frag} {nm : Str} {tk : Tok} {v : Value} {e C dx : Addr} {fv : Array Value} {cd : ClassData} {m0 : Str → Option Value} {nl : List Str} (X : K.In h0) (he : h0.get? e = some { cls := .ref C, dict := some dx, data := .fields fv }) (hns : h0.Ns1 dx m0) (hw : Within m0 nl) (hz : nl.length ≤ 1000)
    (hcd : W.clsIn K C = some cd) (hm : MroOk cd.mro) (hh : cd.hasDict = true) (ha : W.findIn K (.ref C) nm = some none)
    (hq : ∀ h1 t1, (∀ b o, b ≠ dx → h0.get? b = some o → h1.get? b = some o) → h1.Ns1 dx (fun y => if y = nm then some v else m0 y) → R (.ok (.ret .none)) ⟨h1, gs, dr, t1, os⟩) :
    codeAny (model prog w) A (.call (.builtin "object.__setattr__") ⟨[.ref e, .str nm tk, v], []⟩) R ⟨h0, gs, dr, tn, os⟩ := by
  obtain ⟨oD, esD, epD, hoD, _, _⟩ := hns.count hw
  have J : W.InstAt h0 e { cls := .ref C, dict := some dx, data := .fields fv } C (some oD) := ⟨he, rfl, rfl, hoD⟩
  have L1 : W.Looks (model prog w) h0 (mroOf (.ref C)) cd.mro := (W.looks_clsIn X hcd).andThen .now
  have L2 : W.Looks (model prog w) h0 (storeTaker? none) none := .now
  have L4 : W.Looks (model prog w) h0 (classData C) cd := W.looks_clsIn X hcd
  refine codeAny_call_builtin F.store_object.slot.plain F.store_object.entry (@W.check_slot (model prog w) _ _ ⟨h0, gs, dr, tn, os⟩ "object.__setattr__" "object" "__setattr__" (.ref e) [.str nm tk, v] [] _ F.store_object.kind F.store_object.split (sub_obj X J hcd hm) (F.store_object.args (.ref e) (.str nm tk) v) ?_)
  rw [W.osa_eq, refuse_eq]
  refine wpAny_bind (wpAny_bind (J.type.at (wpAny_bind (L1.at ?_))))
  rw [hm.pass]
  refine wpAny_pure (wpAny_bind (J.type.at (wpAny_bind ((W.looks_findIn X ha).at (wpAny_bind (L2.at ?_))))))
  show wpAny _ _ (storeInOwnDict (.ref e) (.ref C) (.str nm tk) nm v false) _ _ _
  obtain ⟨c1, c2, c3, c4, c5, c6, c7, c8, c9, c10, c11⟩ := cd
  dsimp only at hh
  subst hh
  unfold storeInOwnDict ownDictForStores
  repeat (first | with_reducible refine PySem.OEX.store_in_old hns hw hz ?_ | with_reducible refine wpAny_loadPart_at he ?_ | with_reducible refine L4.at ?_ | wp_step)
  exact fun h1 t1 hn hs => hq h1 t1 (fun b o hb ho => (hs.2 b hb).trans ho) hn
end
/-! ### making such an error: the built-in __new__ that it inherits, then its own __init__ -/
structure NewOk (newId : String) (bm : List Value) : Prop where
  ex : ∃ (Bn initn : String) (bn : List Value), ExcBaseFacts Bn newId initn bn ∧ bm.contains (.type Bn) = true ∧ bm.contains (.type "AttributeError") = false ∧ bm.contains (.type "NameError") = false
structure InitOk (B : String) (bm : List Value) : Prop where
  plain : plainId (B ++ ".__init__") = true
  entry : entryFor table (B ++ ".__init__") = some Builtin.«BaseException.__init__»
  kind : builtinKind (B ++ ".__init__") = some .slot
  split : splitId (B ++ ".__init__") = some (B, "__init__")
  row : Manifest.signature? (B ++ ".__init__") = some ⟨.positional, "*", B, .self, [⟨"args", .varPos, false⟩]⟩
  star : (B != "*") = true
  has : bm.contains (.type B) = true
section
variable {prog : Program} {w : World} {A : Around} {E : Value → Shared → Prop} {R : Result → Shared → Prop} {hp : Heap} {ga : Array GenState} {dw : Drawn} {tn : Nat} {os : OsState}
variable {n1 n2 : Str} {C N : Addr} {b1 bm : List Value} {hd : Bool} {s1 : List Str} {s2 : List Value} {ab : Bool} {co : Option Bool} {d1 : Option Addr} {k0 k1 k2 k3 k5 : Option Value} {B newId : String}
theorem init_any (I : InitOk B bm) {e t0 : Addr} {more : List Value} (hC : hp.get? C = some (excClassObj n1 n2 C N b1 bm hd s1 s2 ab co d1 k0 k1 k2 k3 k5 newId)) (he : hp.get? e = some (excO C t0)) (hl : more.length ≤ sizeLine)
    (hq : ∀ h2 t2, (∀ b o, b ≠ e → hp.get? b = some o → h2.get? b = some o) → h2.get? e = some (excO C t2) → R (.ok (.ret .none)) ⟨h2, ga, dw, tn, os⟩) :
    codeAny (model prog w) A (.call (.builtin (B ++ ".__init__")) ⟨.ref e :: more, []⟩) R ⟨hp, ga, dw, tn, os⟩ := by
  have hin : (Value.ref C :: bm).contains (.type B) = true := by
    rw [List.contains_cons, I.has, Bool.or_true]
  have hst := I.star
  refine codeAny_call_builtin I.plain I.entry ?_
  have chk : ∀ {Q : Unit → Shared → Prop} {E : Value → Shared → Prop} {A : Around}, Q () ⟨hp, ga, dw, tn, os⟩ → wpAny (model prog w) A (checkBuiltinCall (B ++ ".__init__") ⟨.ref e :: more, []⟩) Q E ⟨hp, ga, dw, tn, os⟩ := fun {Q E A} q => by
    simp only [checkBuiltinCall, I.kind, I.split, I.row]
    repeat (first | (with_reducible refine wpAny_loadPart_at he ?_) | with_reducible refine wpAny_loadPart_at hC ?_ | (with_reducible refine wpAny_isSubtype_exc hC ?_; rw [hin]) | wp_step)
    refine wpAny_onRaise ?_
    rw [show ∀ (x y : String) (n : Nat), Bind.check ⟨.positional, "*", B, .self, [⟨"args", .varPos, false⟩]⟩ x y n (List.map (fun z => z.fst) ({ pos := Value.ref e :: more } : Args).kw) = pure () from
      fun _ _ _ => check_star_args _ _ _ _ _ _]
    exact wpAny_pure q
  refine chk ?_
  wp_walk
  refine hq _ hp.objs.size (fun b o hb ho => ?_) ?_
  · exact (Heap.get?_update_other _ _ (Ne.symm hb)).trans (Heap.get?_push_of_some _ ho)
  · exact Heap.get?_update_self _ (Heap.get?_push_of_some _ he) rfl
theorem new_any (Nw : NewOk newId bm) {more : List Value} (hC : hp.get? C = some (excClassObj n1 n2 C N b1 bm hd s1 s2 ab co d1 k0 k1 k2 k3 k5 newId)) (hl : more.length ≤ sizeLine)
    (hq : R (.ok (.ret (.ref (hp.objs.size + 1)))) ⟨(hp.push { cls := .type "tuple", data := .seq more.toArray }).push { cls := .ref C, data := .fields #[.ref hp.objs.size, .none, .none, .none, .bool false, .none] }, ga, dw, tn, os⟩) :
    codeAny (model prog w) A (.builtin newId ⟨.ref C :: more, []⟩) R ⟨hp, ga, dw, tn, os⟩ := by
  obtain ⟨Bn, initn, bn, FB, c1, c2, c3⟩ := Nw.ex
  have e0 := FB.ends
  have e1 : (Value.ref C :: bm).contains (.type Bn) = true := by
    rw [List.contains_cons, c1, Bool.or_true]
  have e2 : (Value.ref C :: bm).contains (.type "AttributeError") = false := by
    rw [List.contains_cons, c2]
    rfl
  have e3 : (Value.ref C :: bm).contains (.type "NameError") = false := by
    rw [List.contains_cons, c3]
    rfl
  refine codeAny_builtinAt FB.entry ?_
  unfold Builtin.«BaseException.__new__»
  refine wpAt_bind ?_
  show wpAt _ _ _ (stack >>= _) _ _ _
  refine wpAt_bind (wpAt_stack fun p below => wpAt_of_wpAny ?_)
  wp_walk
  refine wpAt_of_wpAny ?_
  rw [FB.owner]
  repeat (first | with_reducible refine wpAny_madeHere_exc FB.canon hC ?_ | with_reducible refine wpAny_loadPart_at hC ?_ | (with_reducible refine wpAny_isSubtype_exc hC ?_; first | rw [e1] | rw [e2] | rw [e3]) | wp_step)
  show R _ _
  rw [Heap.size_push]
  exact hq
theorem check_any (Nw : NewOk newId bm) {M : Model} {more : List Value} {Q : Unit → Shared → Prop} (hC : hp.get? C = some (excClassObj n1 n2 C N b1 bm hd s1 s2 ab co d1 k0 k1 k2 k3 k5 newId)) (q : Q () ⟨hp, ga, dw, tn, os⟩) :
    wpAny M A (checkBuiltinCall newId ⟨.ref C :: more, []⟩) Q E ⟨hp, ga, dw, tn, os⟩ := by
  obtain ⟨Bn, initn, bn, FB, c1, c2, c3⟩ := Nw.ex
  have e1 : (Value.ref C :: bm).contains (.type Bn) = true := by
    rw [List.contains_cons, c1, Bool.or_true]
  have e0 := FB.noStar
  simp only [checkBuiltinCall, FB.newKind, FB.newSplit, FB.newRow]
  repeat (first | refine wpAny_loadPart_at hC ?_ | (refine wpAny_isSubtype_exc hC ?_; rw [e1]) | refine wpAny_staticBase_exc hC ?_ | refine wpAny_madeBy_exc hC ?_ | simp only [bne_self_eq_false, Bool.false_eq_true, if_false] | wp_step)
  exact q
theorem typeCall_any (Nw : NewOk newId bm) {more : List Value} {fI : Addr} {Q : Fin → Shared → Prop} (hC : hp.get? C = some (excClassObj n1 n2 C N b1 bm hd s1 s2 ab co d1 k0 k1 k2 k3 k5 newId))
    (hi : W.Looks (model prog w) hp (typeLookup (.ref C) "__init__") (some (.ref fI))) (hb : ∀ self, W.Looks (model prog w) hp (bindSpecial (.ref fI) self) (.ref fI, [self])) (hl : more.length ≤ sizeLine)
    (hq : codeAny (model prog w) A (.call (.ref fI) ⟨.ref (hp.objs.size + 1) :: more, []⟩) (fun res z => match res with | .ok (.ret v) => v = .none ∧ Q (.done (.ret (.ref (hp.objs.size + 1)))) z | .ok _ => False | .error er => E er z) ⟨(hp.push (W.kdv_tup more)).push (excO C hp.objs.size), ga, dw, tn, os⟩) :
    wpAny (model prog w) A (Builtin.«type.__call__» ⟨.ref C :: more, []⟩) Q E ⟨hp, ga, dw, tn, os⟩ := by
  obtain ⟨Bn, initn, bn, FB, _, _, _⟩ := id Nw.ex
  repeat (first | with_reducible refine wpAny_loadPart_at hC ?_ | with_reducible refine wpAny_madeBy_exc hC ?_ | wp_step)
  refine codeAny_call_builtin_code (Code.quiet_builtin _ FB.quiet) (check_any Nw hC ?_)
  refine new_any Nw hC hl ?_
  show wpAny _ _ _ _ _ _
  have up : ∀ b o, hp.get? b = some o → ((hp.push (W.kdv_tup more)).push (excO C hp.objs.size)).get? b = some o := fun b o z => Heap.get?_push_of_some _ (Heap.get?_push_of_some _ z)
  have hC2 := up _ _ hC
  have hE : ((hp.push (W.kdv_tup more)).push (excO C hp.objs.size)).get? (hp.objs.size + 1) = some (excO C hp.objs.size) := by heap_get
  have self_in : (Value.ref C :: bm).contains (.ref C) = true := by simp
  have l1 := hi.keeps up
  have l2 := (hb (.ref (hp.objs.size + 1))).keeps up
  unfold isInstance
  repeat (first | with_reducible refine wpAny_loadPart_at hE ?_ | (with_reducible refine wpAny_isSubtype_exc hC2 ?_; rw [self_in]) | wp_step)
  show wpAny _ _ (typeLookup (.ref C) _) _ _ _
  refine l1.at (wpAny_holding (wpAny_bind (l2.at ?_)))
  refine wpAny_bind (wpAny_call (codeAny_mono hq fun res z q => ?_))
  rcases res with er | (v | _ | _ | _) <;> first | exact q | exact q.elim | skip
  obtain ⟨rfl, q⟩ := q
  first
    | exact wpAny_pure (wpAny_pure q)
    | (wp_walk; exact q)
theorem call_any (Nw : NewOk newId bm) {more : List Value} {fI : Addr} (hC : hp.get? C = some (excClassObj n1 n2 C N b1 bm hd s1 s2 ab co d1 k0 k1 k2 k3 k5 newId))
    (hi : W.Looks (model prog w) hp (typeLookup (.ref C) "__init__") (some (.ref fI))) (hb : ∀ self, W.Looks (model prog w) hp (bindSpecial (.ref fI) self) (.ref fI, [self])) (hl : more.length ≤ sizeLine)
    (hq : codeAny (model prog w) (A.under (.builtin "type.__call__" ⟨.ref C :: more, []⟩)) (.call (.ref fI) ⟨.ref (hp.objs.size + 1) :: more, []⟩) (W.InitBack (hp.objs.size + 1) R) ⟨(hp.push (W.kdv_tup more)).push (excO C hp.objs.size), ga, dw, tn, os⟩) :
    codeAny (model prog w) A (.call (.ref C) ⟨more, []⟩) R ⟨hp, ga, dw, tn, os⟩ := by
  have g1 := tc_lookup
  have g2 := tc_bind (.ref C)
  have hty : (⟨hp, ga, dw, tn, os⟩ : Shared).TypeIs (.ref C) "type" := ⟨_, hC, rfl⟩
  refine codeAny_of_tree ?_
  show wpAny _ _ (callAny (.ref C) _) _ _ _
  repeat (any_goals (first | assumption | with_reducible refine wpAny_loadPart_at hC ?_ | wp_step))
  refine ⟨rfl, codeAny_call_builtin_at (Code.quiet_builtin _ (by decide +kernel)) entry_typeCall (wpAny_check_type_call_sub hC (typeCall_any Nw hC hi hb hl (codeAny_mono hq fun res z q => ?_)))⟩
  rcases res with er | (v | _ | _ | _) <;> exact q
end
end Oxb
end PySem
namespace Thr
open PySem PySem.Spec PyProof.Rows L2
/-! ### an own error straight over a built-in one (B), whose __init__ is walked as a def -/
structure OxC (K : PySem.W.Frag) (C : Addr) (B : String) : Prop where
  cls : ∃ nm q N bs bm sn sub ab col dd k0 k1 k2 k3 k5 newId, K.lookup C = some (excClassObj nm q C N bs bm true sn sub ab col dd k0 k1 k2 k3 k5 newId) ∧ PySem.Oxb.NewOk newId bm ∧ PySem.Oxb.InitOk B bm ∧ PySem.Oxb.MroOk (.ref C :: bm)
  sa : PySem.W.findIn K (.ref C) "__setattr__" = some (some (.builtin "object.__setattr__"))
  exC : PySem.W.subIn K (.ref C) (.type "BaseException") = some true
  tyC : PySem.W.typeIn K (.ref C) = some (.type "type")
  kC : PySem.W.keepIn K (.ref C) = true
section
variable {X : Cx} {pins : List (Addr × Obj)} {σ : L2.St} {H : Hp} {s : Shared} {a C dx : Addr} {f : Str} {y : V} {u : Value} {fs : List (Str × V)} {Q : Unit → Shared → Prop} {E : Value → Shared → Prop} {A : Around} {B : String}
theorem ox_first (T : OxC X.K C B) (I : Inv X pins σ H s) (e : H a = some (exo a C none)) (hno : PySem.W.findIn X.K (.ref C) f = some none) (ry : RelV y u)
    (h : ∀ dx s1, H dx = none → dx ≠ a → Inv X pins σ (upd (upd H dx (exd dx [(f, y)])) a (exo a C (some dx))) s1 → Q () s1) : wpAny (model X.prog X.w) A (setAttr (.ref a) f u) Q E s := by
  obtain ⟨nm, q, N, bs, bm, sn, sub, ab, col, dd, k0, k1, k2, k3, k5, newId, hC, _, _, hm⟩ := T.cls
  have hcl : ∃ cd, PySem.W.clsIn X.K C = some cd ∧ cd.mro = .ref C :: bm ∧ cd.hasDict = true := by
    unfold PySem.W.clsIn
    rw [hC]
    exact ⟨_, rfl, rfl, rfl⟩
  obtain ⟨cd, hcd, em, ehd⟩ := hcl
  obtain ⟨t1, ho⟩ := exo_at I.hok e
  obtain ⟨h0, gs, dr, tn, os⟩ := s
  refine PySem.W.set_plain I.kIn (ox := { cls := .ref C, dict := none, data := .fields #[.ref t1, .none, .none, .none, .bool false, .none] }) (od := none) ⟨ho, rfl, rfl, trivial⟩ T.sa ?_
  refine PySem.Oxb.store_first I.kIn ho hcd (em ▸ hm) ehd hno (fun h1 t2 dx kp hbig hne hx hn => ?_)
  have fresh : H dx = none := I.hok.fresh hbig
  have offD : ∀ {b : Addr} {o : Obj}, h0.get? b = some o → b ≠ dx := fun z => Nat.ne_of_lt (Nat.lt_of_lt_of_le (Heap.lt_size z) hbig)
  have offA : ∀ {b : Addr}, H b = none → b ≠ a := fun {b} z1 z2 => by
    rw [z2, e] at z1
    cases z1
  have U : Un X.fs [] H (upd (upd H dx (exd dx [(f, y)])) a (exo a C (some dx))) h0 h1 :=
    ⟨fun b o z n _ _ => kp b o (offA n) z, fun b o z n _ _ => ⟨o.slots, kp b o (offA n) z⟩, fun b o z n _ => by rw [upd_ne (offA n), upd_ne (offD z)]; exact n,
      fun b o z _ => by
        by_cases hb : b = a
        · exact ⟨_, hb ▸ hx⟩
        · exact ⟨o, kp b o hb z⟩,
      fun b xs z => by rw [upd_ne (at_ne e z exo_tup), upd_ne (ne_of_none z fresh)]; exact z,
      fun b o v z => by rw [upd_ne (at_ne e z exo_frz), upd_ne (ne_of_none z fresh)]; exact z,
      fun b ps z => ⟨#[], by rw [upd_ne (at_ne e z exo_tbl), upd_ne (ne_of_none z fresh), z]; simp⟩⟩
  refine h dx _ fresh hne (I.un (t' := t2) U fun b o z => ?_)
  by_cases hb : b = a
  · subst hb
    rw [upd_same] at z
    cases z
    exact exo_ok hx
  rw [upd_ne hb] at z
  by_cases hd : b = dx
  · subst hd
    rw [upd_same] at z
    cases z
    exact exd_ok hn (relO_put (fs := []) ry fun _ => True.intro)
  rw [upd_ne hd] at z
  refine (I.hok b o z).stay (fun c v hc z2 => kp c v (fun z3 => ?_) z2) (fun c hc => by rw [upd_ne (at_ne e hc exo_own), upd_ne (ne_of_none hc fresh)]; exact hc) (fun c xs hc => by rw [upd_ne (at_ne e hc exo_tup), upd_ne (ne_of_none hc fresh)]; exact hc)
  rcases hc with hc | hc
  · exact hb (hc.symm.trans z3)
  · exact at_ne e hc exo_own z3
theorem ox_more (T : OxC X.K C B) (I : Inv X pins σ H s) (e : H a = some (exo a C (some dx))) (ed : H dx = some (exd dx fs)) (hl : fs.length ≤ 900) (hno : PySem.W.findIn X.K (.ref C) f = some none) (ry : RelV y u)
    (h : ∀ s1, Inv X pins σ (upd H dx (exd dx ((f, y) :: fs))) s1 → Q () s1) : wpAny (model X.prog X.w) A (setAttr (.ref a) f u) Q E s := by
  obtain ⟨nm, q, N, bs, bm, sn, sub, ab, col, dd, k0, k1, k2, k3, k5, newId, hC, _, _, hm⟩ := T.cls
  have hcl : ∃ cd, PySem.W.clsIn X.K C = some cd ∧ cd.mro = .ref C :: bm ∧ cd.hasDict = true := by
    unfold PySem.W.clsIn
    rw [hC]
    exact ⟨_, rfl, rfl, rfl⟩
  obtain ⟨cd, hcd, em, ehd⟩ := hcl
  obtain ⟨t1, ho⟩ := exo_at I.hok e
  obtain ⟨mA, hns, rel⟩ := exd_at I.hok ed
  have hw := within_of rel
  obtain ⟨h0, gs, dr, tn, os⟩ := s
  obtain ⟨oD, _, _, hoD, _, _⟩ := hns.count hw
  refine PySem.W.set_plain I.kIn (ox := { cls := .ref C, dict := some dx, data := .fields #[.ref t1, .none, .none, .none, .bool false, .none] }) (od := some oD) ⟨ho, rfl, rfl, hoD⟩ T.sa ?_
  refine PySem.Oxb.store_more I.kIn ho hns hw (by rw [List.length_map]; omega) hcd (em ▸ hm) ehd hno (fun h1 t2 kp hn => ?_)
  obtain ⟨o2, _, _, e2, _⟩ := id hn
  exact h _ (I.write (t' := t2) (x := dx) (e := dx) (o := exd dx ((f, y) :: fs)) (by rw [ed]; exact True.intro) (.inl rfl) kp ⟨o2, e2⟩ (exd_ok hn (relO_put ry rel)))
theorem ox_init {us : List Value} {Q : Value → Shared → Prop} (T : OxC X.K C B) (I : Inv X pins σ H s) (e : H a = some (exo a C none)) (hl : us.length ≤ sizeLine) (h : ∀ s1, Inv X pins σ H s1 → Q .none s1) :
    wpAny (model X.prog X.w) A (call (.builtin (B ++ ".__init__")) (.ref a :: us)) Q E s := by
  obtain ⟨nm, q, N, bs, bm, sn, sub, ab, col, dd, k0, k1, k2, k3, k5, newId, hC, _, FB, _⟩ := T.cls
  obtain ⟨t1, ho⟩ := exo_at I.hok e
  obtain ⟨h0, gs, dr, tn, os⟩ := s
  refine wpAny_call (PySem.Oxb.init_any FB (I.kIn _ _ hC) ho hl fun h1 t2 kp hx => ?_)
  have J := I.write (t' := tn) (x := a) (e := a) (o := exo a C none) (by rw [e]; exact True.intro) (.inl rfl) kp ⟨_, hx⟩ (exo_ok hx)
  have same : upd H a (exo a C none) = H := funext fun b => by
    by_cases hb : b = a
    · rw [hb, upd_same, e]
    · rw [upd_ne hb]
  rw [same] at J
  exact h _ J
end
/-- B.__init__(self, ..) -/
def tBI (K : PySem.W.Frag) (B : String) (ta : TA) : TE := fun σ H Q => ta σ H fun vs H1 => ∃ (a C : Addr) (ws : List V), vs = .ref a :: ws ∧ ws.length ≤ 1000 ∧ OxC K C B ∧ H1 a = some (exo a C none) ∧ Q .non H1
/-- self.f = e -/
def tOxs (K : PySem.W.Frag) (f : Str) (to te : TE) : TS := fun D σ H => te σ H fun y H1 => to σ H1 fun x H2 => ∃ (a C : Addr) (B : String), x = .ref a ∧ OxC K C B ∧ PySem.W.findIn K (.ref C) f = some none ∧
  ((H2 a = some (exo a C none) ∧ ∀ dx, H2 dx = none → dx ≠ a → D.nx σ (upd (upd H2 dx (exd dx [(f, y)])) a (exo a C (some dx)))) ∨
    ∃ (dx : Addr) (fs : List (Str × V)), H2 a = some (exo a C (some dx)) ∧ H2 dx = some (exd dx fs) ∧ fs.length ≤ 900 ∧ D.nx σ (upd H2 dx (exd dx ((f, y) :: fs))))
section
variable {X : Cx} {o e : Expr} {es : List Expr} {to te : TE} {ta : TA} {f : Str} {p p' p1 p2 pos : Pos} {B : String}
/-- B's own facts: the name, its type, its __init__ -/
structure BInit (K : PySem.W.Frag) (B : String) : Prop where
  boot : bootBuiltins (Str.ofString B) = some (.type B)
  ty : typeOf (.type B) = pure (.type "type")
  stub : Manifest.isStub B = false
  fnd : PySem.W.findCls K (.type B) (.type "type") "__init__" = some (.val (.builtin (B ++ ".__init__")))
  out : PySem.W.handedIn (.builtin (B ++ ".__init__")) = true
  nn : Str.ofString B ≠ "__name__"
  nd : (Str.ofString B == ("__debug__" : Str)) = false
theorem pe_binit {pl : Sem Bool} (b : BInit X.K B) (hg : Gl X (Str.ofString B)) (hm : X.mg (Str.ofString B) = none) (ha : PA X (e :: es) ta)
    (hc : eval (.Call (.Attribute (.Name (Str.ofString B) p1) "__init__" p2) (e :: es) [] pos) X.env = (do
      let ov ← eval (.Name (Str.ofString B) p1) X.env
      standAt p2.atName
      let (fn, first) ← holding [ov] (getMethod ov "__init__" pl)
      callWith pos fn first (backTo pos (starEach (e :: es) X.env)) (backToKw pos (keywordEach [] X.env))) := by rfl)
    (he : starEach (e :: es) X.env = (false, eval e X.env) :: starEach es X.env := by rfl) (hpl : (backTo pos (starEach es X.env)).any (·.1) = false := by rfl) :
    PE X (.Call (.Attribute (.Name (Str.ofString B) p1) "__init__" p2) (e :: es) [] pos) (tBI X.K B ta) := by
  refine ⟨fun pins s σ H Q I rd => ?_⟩
  refine PySem.W.methodCall_KW (ld_blt I hg hm b.boot ?_ b.nn b.nd) hc
  obtain ⟨m, fr⟩ := I.fr
  refine PySem.W.method_type fr I.ok.mod.kin b.ty b.stub b.fnd b.out ?_
  show wpAny _ _ (callWith pos (Value.builtin (B ++ ".__init__")) [] (backTo pos (starEach (e :: es) X.env)) []) _ _ _
  refine PyProof.Rows.callWith_method1 (thn (ha.run pos pins _ σ H _ (I.tok _) rd) fun us s1 ⟨vs, H1, I1, r1, a, C, ws, ev, hl, T, ea, q⟩ => ?_) he hpl
  subst ev
  cases r1 with
  | cons ra rs =>
    cases ra
    exact ox_init T I1 ea (by rw [← Paired.length rs, sizeLine_eq]; omega) fun s2 J => ⟨.non, H1, J, rfl, q⟩
theorem ps_oxs (ho : PE X o to) (he : PE X e te) (hs : swapsWith e (some (.Attribute o f p')) pos.line X.env = pure false := by rfl) : PS X (.Assign [.Attribute o f p'] e pos) (tOxs X.K f to te) := by
  refine ⟨fun pins s σ H D I rd => plainObj_wpAny_Assign_Attribute (thn (he.run pins s σ H _ I rd) fun v s1 ⟨y, H1, I1, r1, q1⟩ => thn (ho.run pins s1 σ H1 _ I1 q1) fun u s2 ⟨z, H2, I2, r2, a, C, B, ez, T, hno, q⟩ => ?_) hs⟩
  subst ez
  cases r2
  rcases q with ⟨ea, q⟩ | ⟨dx, fs, ea, ed, hl, q⟩
  · exact ox_first T I2 ea hno r1 fun dx s3 n ne J => ⟨σ, _, J, q dx n ne⟩
  · exact ox_more T I2 ea ed hl hno r1 fun s3 J => ⟨σ, _, J, q⟩
end
/-- C(e, ..) as a value: tracked from then on -/
def tMkV (C : Addr) (sp : Sp) (ta : TA) : TE := fun σ H Q => ta σ H fun vs H1 => vs.length ≤ 1000 ∧ ∀ a, H1 a = none → sp (.ref a :: vs) (upd H1 a (exo a C none))
  (fun v H2 => v = .non ∧ ∃ (d : Addr) (fs : List (Str × V)), H2 a = some (exo a C (some d)) ∧ H2 d = some (exd d fs) ∧ Q (.ref a) (upd (upd H2 a (exv a C d)) d (.xd fs))) (fun _ _ _ => False)
section
variable {X : Cx} {e : Expr} {es : List Expr} {ta : TA} {p pos : Pos} {B : String} {CX : CXT} {x : Str} {C fI : Addr} {k : Nat} {fd : FuncData} {ps : List Str} {sp : Sp}
/-- the exception that its __init__ has left, as a value -/
theorem inv_value {pins : List (Addr × Obj)} {σ : L2.St} {H : Hp} {s : Shared} {a d : Addr} {fs : List (Str × V)} (I : Inv X pins σ H s) (ea : H a = some (exo a C (some d))) (ed : H d = some (exd d fs)) :
    Inv X pins σ (upd (upd H a (exv a C d)) d (.xd fs)) s := by
  obtain ⟨t1, h1⟩ := exo_at I.hok ea
  obtain ⟨mA, h2, rel⟩ := exd_at I.hok ed
  obtain ⟨od, es', ep', h3, h4, _⟩ := id h2
  have nda : d ≠ a := fun z => by
    rw [z, h1] at h3
    have z2 := Option.some.inj h3
    subst z2
    cases h4
  have I1 := I.write (t' := s.toks) (x := a) (e := a) (o := exv a C d) (h' := s.heap) (by rw [ea]; exact True.intro) (.inl rfl) (fun _ _ _ z => z) ⟨_, h1⟩ (exv_ok h1 rfl rfl rfl)
  have ed1 : (upd H a (exv a C d)) d = some (exd d fs) := by
    rw [upd_ne nda]
    exact ed
  exact I1.write (t' := s.toks) (x := d) (e := d) (o := .xd fs) (h' := s.heap) (by rw [ed1]; exact True.intro) (.inl rfl) (fun _ _ _ z => z) ⟨_, h3⟩ ⟨mA, h2, rel⟩
theorem run_ox {pins : List (Addr × Obj)} {σ : L2.St} {H1 : Hp} {vs : List V} {us : List Value} {hp : Heap} {gs : Array GenState} {dr : Drawn} {tk : Nat} {os : OsState} {Qk : V → Hp → Prop} {G : Value → Shared → Prop} (T : OxC X.K C B) (iC : PySem.W.findIn X.K (.ref C) "__init__" = some (some (.ref fI)))
    (tI : PySem.W.typeIn X.K (.ref fI) = some (.type "function")) (F1 : FnOk X.prog X.w X.K X.mg X.base CX k fI fd ps sp) (hr : Room (k + 1) X.A) (hb : Binds X.K fd ps []) (hx : Passes CX X (fun _ _ _ => False)) (I1 : Inv X pins σ H1 ⟨hp, gs, dr, tk, os⟩) (r1 : Vals vs us) (hz : vs.length ≤ 1000)
    (q1 : sp (.ref (hp.objs.size + 1) :: vs) (upd H1 (hp.objs.size + 1) (exo (hp.objs.size + 1) C none)) Qk (fun _ _ _ => False))
    (fin : ∀ (kk : ∀ b o, hp.get? b = some o → ((hp.push (PySem.W.kdv_tup us)).push (PySem.HandSPX.excO C hp.objs.size)).get? b = some o)
      (I2 : Inv X pins σ (upd H1 (hp.objs.size + 1) (exo (hp.objs.size + 1) C none)) ⟨(hp.push (PySem.W.kdv_tup us)).push (PySem.HandSPX.excO C hp.objs.size), gs, dr, tk, os⟩) (v : V) (u : Value) (H2 : Hp) (s2 : Shared), s2.os = os → AllBare s2.gens →
      Un (frs X.stack) [] (upd H1 (hp.objs.size + 1) (exo (hp.objs.size + 1) C none)) H2 ((hp.push (PySem.W.kdv_tup us)).push (PySem.HandSPX.excO C hp.objs.size)) s2.heap → HOk X.prog X.w H2 s2.heap → RelV v u → Qk v H2 → u = .none ∧ G (.ref (hp.objs.size + 1)) s2) :
    wpAny (model X.prog X.w) X.A (call (.ref C) us) G X.xe ⟨hp, gs, dr, tk, os⟩ := by
  obtain ⟨nm, q, N, bs, bm, sn, sub, ab, col, dd, k0, k1, k2, k3, k5, newId, hC, Nw, _, _⟩ := T.cls
  have kk : ∀ b o, hp.get? b = some o → ((hp.push (PySem.W.kdv_tup us)).push (PySem.HandSPX.excO C hp.objs.size)).get? b = some o := fun b o z => Heap.get?_push_of_some _ (Heap.get?_push_of_some _ z)
  have hE : ((hp.push (PySem.W.kdv_tup us)).push (PySem.HandSPX.excO C hp.objs.size)).get? (hp.objs.size + 1) = some (PySem.HandSPX.excO C hp.objs.size) := by heap_get
  have I2 := I1.laid (t' := tk) (a := hp.objs.size + 1) (o := exo (hp.objs.size + 1) C none) kk (Nat.le_succ _) (exo_ok hE)
  have r2 : Vals (V.ref (hp.objs.size + 1) :: vs) (Value.ref (hp.objs.size + 1) :: us) := .cons rfl r1
  have hl : (Value.ref (hp.objs.size + 1) :: us ++ []).length = ps.length := by
    rw [List.append_nil, ← r2.length]
    exact F1.len _ _ _ _ q1
  have bd := hb _ (Value.ref (hp.objs.size + 1) :: us) I2.kIn hl
  rw [List.append_nil] at bd
  refine wpAny_call (PySem.Oxb.call_any Nw (I1.kIn _ _ hC) (PySem.W.looks_findIn I1.kIn iC) (fun self => PySem.W.bind_fn I1.kIn self tI) (by rw [← Paired.length r1, sizeLine_eq]; omega)
    (codeAny_mono (F1.run _ X.stack _ _ ⟨Value.ref (hp.objs.size + 1) :: us, []⟩ (Value.ref (hp.objs.size + 1) :: us) _ _ (fun _ _ _ => False) (hr.make C us []) (I2.env0.make C us []) bd r2 q1) fun res s2 hq => ?_))
  cases res with
  | error er => exact hx pins σ _ _ er s2 I2 hq
  | ok fl =>
    cases fl with
    | ret u =>
      obtain ⟨v, H2, o2, b2, un2, ok2, rv, qv⟩ := hq
      exact fin kk I2 v u H2 s2 o2 b2 un2 ok2 rv qv
    | next => exact hq.elim
    | brk => exact hq.elim
    | cont => exact hq.elim
/-- raise C(e, ..) -/
theorem pmk_ox (T : OxC X.K C B) (iC : PySem.W.findIn X.K (.ref C) "__init__" = some (some (.ref fI))) (tI : PySem.W.typeIn X.K (.ref fI) = some (.type "function"))
    (F1 : FnOk X.prog X.w X.K X.mg X.base CX k fI fd ps sp) (hr : Room (k + 1) X.A) (hb : Binds X.K fd ps []) (hx : Passes CX X (fun _ _ _ => False)) (hg : Gl X x) (hm : X.mg x = some (.ref C)) (ha : PA X (e :: es) ta)
    (hdb : (x == ("__debug__" : Str)) = false := by decide) (he : starEach (e :: es) X.env = (false, eval e X.env) :: starEach es X.env := by rfl) (hpl : (backTo pos (starEach es X.env)).any (·.1) = false := by rfl) :
    PMk X (.Call (.Name x p) (e :: es) [] pos) (tMkO C sp [] ta) := by
  intro pins s σ H Q I rd
  refine wpAny_Call_Name_kw (ld_glob I hg hm ?_ hdb)
  refine PySem.W.callWith_K (h₀ := X.base) I.ok.mod.kin T.kC (thn (ha.run pos pins s σ H _ I rd) fun us s1 ⟨vs, H1, I1, r1, hz, q1⟩ => ⟨I1.kIn, ?_⟩) he hpl
  show wpAny _ _ (call (.ref C) us) _ _ _
  obtain ⟨hp, gs, dr, tk, os⟩ := s1
  have q2 := q1 (hp.objs.size + 1) (I1.hok.fresh (Nat.le_succ _))
  rw [List.append_nil] at q2
  refine run_ox T iC tI F1 hr hb hx I1 r1 hz q2 (fun kk I2 v u H2 s2 o2 b2 un2 ok2 rv qv => ?_)
  obtain ⟨ev, d, fs, ea, ed, hd1, q3⟩ := qv
  subst ev
  obtain ⟨h2, g2, d2, t2, os2⟩ := s2
  exact ⟨rv, mk_end (raises_own T.exC T.tyC) I1 (Nat.le_succ _) kk un2 ok2 o2 b2 ea ed hd1 q3⟩
theorem pe_mkv (T : OxC X.K C B) (iC : PySem.W.findIn X.K (.ref C) "__init__" = some (some (.ref fI))) (tI : PySem.W.typeIn X.K (.ref fI) = some (.type "function"))
    (F1 : FnOk X.prog X.w X.K X.mg X.base CX k fI fd ps sp) (hr : Room (k + 1) X.A) (hb : Binds X.K fd ps []) (hx : Passes CX X (fun _ _ _ => False)) (hg : Gl X x) (hm : X.mg x = some (.ref C)) (ha : PA X (e :: es) ta)
    (hdb : (x == ("__debug__" : Str)) = false := by decide) (he : starEach (e :: es) X.env = (false, eval e X.env) :: starEach es X.env := by rfl) (hpl : (backTo pos (starEach es X.env)).any (·.1) = false := by rfl) :
    PE X (.Call (.Name x p) (e :: es) [] pos) (tMkV C sp ta) := by
  refine ⟨fun pins s σ H Q I rd => ?_⟩
  refine wpAny_Call_Name_kw (ld_glob I hg hm ?_ hdb)
  refine PySem.W.callWith_K (h₀ := X.base) I.ok.mod.kin T.kC (thn (ha.run pos pins s σ H _ I rd) fun us s1 ⟨vs, H1, I1, r1, hz, q1⟩ => ⟨I1.kIn, ?_⟩) he hpl
  show wpAny _ _ (call (.ref C) us) _ _ _
  obtain ⟨hp, gs, dr, tk, os⟩ := s1
  have q2 := q1 (hp.objs.size + 1) (I1.hok.fresh (Nat.le_succ _))
  refine run_ox T iC tI F1 hr hb hx I1 r1 hz q2 (fun kk I2 v u H2 s2 o2 b2 un2 ok2 rv qv => ?_)
  obtain ⟨ev, d, fs, ea, ed, q3⟩ := qv
  subst ev
  exact ⟨rv, .ref (hp.objs.size + 1), _, inv_value (I2.call' (ch := []) o2 un2 ok2 b2 (fun _ z => nomatch z)) ea ed, rfl, q3⟩
end
/-! ### the built-in errors that own ones stand under -/
section
open PySem.Oxb
theorem cont_obj {C : Addr} {l : List Value} (h : l.contains (.type "object") = true) : (Value.ref C :: l).contains (.type "object") = true := by
  rw [List.contains_cons, h, Bool.or_true]
theorem new_VE : NewOk "ValueError.__new__" [.type "ValueError", .type "Exception", .type "BaseException", .type "object"] := ⟨_, _, _, PySem.F.excBase_ValueError, by decide +kernel, by decide +kernel, by decide +kernel⟩
theorem init_VE : InitOk "ValueError" [.type "ValueError", .type "Exception", .type "BaseException", .type "object"] :=
  ⟨PySem.F.excBase_ValueError.init.plain, PySem.F.excBase_ValueError.initEntry, PySem.F.excBase_ValueError.initKind, PySem.F.excBase_ValueError.initSplit, PySem.F.excBase_ValueError.initRow, PySem.F.excBase_ValueError.noStar, by decide +kernel⟩
theorem mro_VE (C : Addr) : MroOk (.ref C :: [.type "ValueError", .type "Exception", .type "BaseException", .type "object"]) :=
  ⟨fun self => by rw [refuseLoop_ref]; exact PySem.F.store_ValueError.passes self, cont_obj (by decide +kernel), rfl⟩
theorem new_KE : NewOk "LookupError.__new__" [.type "KeyError", .type "LookupError", .type "Exception", .type "BaseException", .type "object"] := ⟨_, _, _, PySem.F.excBase_LookupError, by decide +kernel, by decide +kernel, by decide +kernel⟩
theorem init_KE : InitOk "KeyError" [.type "KeyError", .type "LookupError", .type "Exception", .type "BaseException", .type "object"] where
  plain := by decide +kernel
  entry := entryFor_alias (id' := "BaseException.__init__") (by rw [fastTable_eq_tree]; kernel_rfl)
    (by first | rfl | decide +kernel) (by decide +kernel) (by rw [fastTable_eq_tree]; kernel_rfl)
  kind := by kernel_rfl
  split := by kernel_rfl
  row := by kernel_rfl
  star := by decide +kernel
  has := by decide +kernel
theorem mro_KE (C : Addr) : MroOk (.ref C :: [.type "KeyError", .type "LookupError", .type "Exception", .type "BaseException", .type "object"]) :=
  ⟨fun self => by rw [refuseLoop_ref]; kernel_rfl, cont_obj (by decide +kernel), rfl⟩
end
def top (i : Nat) : Stmt := PySem.Challenge.pw_threereckons_k03_reckoned_under_a_cap.main.body.getD i (.Pass ⟨0, 0, 0, 0⟩)
/-! ### the draws -/
abbrev s__law_take : Stmt := top 28
abbrev N__law_take : List Str := ["_law_box", "_law_many", "_law_found", "_law_once", "_law_twice"]
abbrev P__law_take : List Str := ["_law_box", "_law_many"]
theorem sc__law_take : FnScope N__law_take P__law_take (defScope s__law_take) := ⟨rfl, rfl, rfl, by decide +kernel, rfl, by decide +kernel, by decide +kernel⟩
abbrev s__law_dip : Stmt := top 27
abbrev N__law_dip : List Str := ["_law_script", "_law_k", "_law_cell"]
abbrev P__law_dip : List Str := ["_law_script", "_law_k"]
theorem sc__law_dip : FnScope N__law_dip P__law_dip (defScope s__law_dip) := ⟨rfl, rfl, rfl, by decide +kernel, rfl, by decide +kernel, by decide +kernel⟩
abbrev s__law_folded : Stmt := top 29
abbrev N__law_folded : List Str := ["_law_script", "_law_size", "_law_cells", "_law_k", "_law_cell"]
abbrev P__law_folded : List Str := ["_law_script", "_law_size"]
theorem sc__law_folded : FnScope N__law_folded P__law_folded (defScope s__law_folded) := ⟨rfl, rfl, rfl, by decide +kernel, rfl, by decide +kernel, by decide +kernel⟩
section
variable {P : Program} {w : World} {K : PySem.W.Frag} {mg : Str → Option Value} {base : Heap}
theorem ok_take (D : Dd K mg "_law_take" s__law_take P__law_take) : C8.Cal P w K mg base 1 "_law_take" spTake [] := by
  refine D.cal sc__law_take (fun vs H Q E h => ?_) (fun f cdv A outer s H vs Q E hr h => ?_)
  · obtain ⟨a, many, n, b, rfl, _⟩ := h
    rfl
  · obtain ⟨a, many, n, b, rfl, ha, ⟨b0, b1, b2, rfl, h0, h1, h1', h2, h2'⟩, hn, hm, hm', k⟩ := h
    refine ⟨_, (pss_cons (ps_if (pt_cmpR op_gt (pe_ix ix_list (pv 0) pe_int (fun _ _ => rfl)) pe_int (nomark _))
          (pss_cons (ps_set (i := 2) sc__law_take.nd rfl (Or.inl rfl) (pe_op op_mod (pe_ix ix_list (pv 0) pe_int (fun _ _ => rfl)) (pv 1)))
        (pss_cons (ps_asg (pe_op op_fdiv (pe_ix ix_list (pv 0) pe_int (fun _ _ => rfl)) (pv 1)) (pg_sub (pv 0) pe_int set_list))
        (pss_one (ps_ret (pv 2)))))
          pss_nil)
        (pss_cons (ps_asg (pe_op op_add (pe_ix ix_list (pv 0) pe_int (fun _ _ => rfl)) pe_int) (pg_sub (pv 0) pe_int set_list))
        (pss_cons (ps_set (i := 3) sc__law_take.nd rfl (Or.inl rfl) (pe_op op_mod (pe_op op_pow (pe_op op_add (pe_ix ix_list (pv 0) pe_int (fun _ _ => rfl)) (pe_op op_mul pe_int (pe_ix ix_list (pv 0) pe_int (fun _ _ => rfl)))) pe_int) pe_int))
        (pss_cons (ps_set (i := 4) sc__law_take.nd rfl (Or.inl rfl) (pe_op op_mod (pe_op op_mul (pe_op op_add (pe_op op_add (pv 3) (pe_ix ix_list (pv 0) pe_int (fun _ _ => rfl))) (pe_op op_fdiv (pe_ix ix_list (pv 0) pe_int (fun _ _ => rfl)) pe_int)) (pe_op op_add (pe_op op_add (pe_op op_mod (pv 3) pe_int) pe_int) (pe_ix ix_list (pv 0) pe_int (fun _ _ => rfl)))) pe_int))
        (pss_one (ps_ret (pe_op op_mod (pe_op op_fdiv (pe_op op_mod (pe_op op_add (pe_op op_mul (pv 4) pe_int) (pv 3)) pe_int) pe_int) (pv 1)))))))), ?_⟩
    have hL : SqL K H a [.int b0, .int b1, .int b2] := SqL.of ha
    refine ⟨_, rfl, a, _, 0, .int b0, rfl, rfl, hL, atI_nat (j := 0) rfl, _, _, rfl, rfl, _, rfl, ite2 (fun e => ?_) (fun e => ?_)⟩
    · have e0 : 0 < b0 := of_decide_eq_true e
      refine ⟨_, rfl, a, _, 0, .int b0, rfl, rfl, hL, atI_nat (j := 0) rfl, .int many, rfl, _, _, rfl, rfl, hm, ?_⟩
      refine ⟨_, rfl, a, _, 0, .int b0, rfl, rfl, hL, atI_nat (j := 0) rfl, .int many, rfl, _, _, rfl, rfl, ⟨hm, hm'⟩, ?_⟩
      refine ⟨_, rfl, a, _, 0, 0, rfl, rfl, ha, rfl, _, rfl, ?_⟩
      refine k (b0 % many) _ (Int.emod_nonneg _ (by omega)) (Int.emod_lt_of_pos _ hm) ⟨b0 / many, b1, b2, rfl, Int.ediv_nonneg h0 (by omega), h1, h1', h2, by omega⟩
    · refine ⟨_, rfl, a, _, 2, .int b2, rfl, rfl, hL, atI_nat (j := 2) rfl, _, _, rfl, rfl, _, rfl, a, _, 2, 2, rfl, rfl, ha, rfl, ?_⟩
      have hL2 : SqL K (upd H a (.lst [.int b0, .int b1, .int (b2 + 1)])) a [.int b0, .int b1, .int (b2 + 1)] := SqL.of upd_same
      refine ⟨_, rfl, a, _, 1, .int b1, rfl, rfl, hL2, atI_nat (j := 1) rfl, _, rfl, a, _, 2, .int (b2 + 1), rfl, rfl, hL2, atI_nat (j := 2) rfl, _, _, rfl, rfl, .inl ⟨by decide, by decide⟩, _, _, rfl, rfl, _, _, rfl, rfl,
        ⟨by decide, by decide, by omega⟩, _, _, rfl, rfl, (by show (0 : Int) < _; decide), ?_⟩
      have q : (b1 + 39373 * (b2 + 1)) ^ Int.toNat 5 % 2147483647 = (b1 + 39373 * (b2 + 1)) ^ Int.toNat 5 % 2147483647 := rfl
      generalize (b1 + 39373 * (b2 + 1)) ^ Int.toNat 5 = w5
      have g1 : 0 ≤ w5 % 2147483647 := Int.emod_nonneg _ (by decide)
      have g2 : w5 % 2147483647 < 2147483647 := Int.emod_lt_of_pos _ (by decide)
      have g3 : 0 ≤ b1 / 1000003 := Int.ediv_nonneg h1 (by decide)
      have g4 : b1 / 1000003 ≤ b1 := Int.ediv_le_self _ h1
      have g5 : 0 ≤ w5 % 2147483647 % 40009 := Int.emod_nonneg _ (by decide)
      have g6 : w5 % 2147483647 % 40009 < 40009 := Int.emod_lt_of_pos _ (by decide)
      refine ⟨_, rfl, _, rfl, a, _, 2, .int (b2 + 1), rfl, rfl, hL2, atI_nat (j := 2) rfl, _, _, rfl, rfl, _, rfl, a, _, 1, .int b1, rfl, rfl, hL2, atI_nat (j := 1) rfl, _, _, rfl, rfl, ⟨by decide, by decide⟩, _, _, rfl, rfl,
        _, rfl, _, _, rfl, rfl, (by show (0 : Int) < _; decide), _, _, rfl, rfl, _, rfl, a, _, 2, .int (b2 + 1), rfl, rfl, hL2, atI_nat (j := 2) rfl, _, _, rfl, rfl, _, _, rfl, rfl, .inl ⟨by omega, by omega⟩, _, _, rfl, rfl, (by show (0 : Int) < _; decide), ?_⟩
      generalize (w5 % 2147483647 + (b2 + 1) + b1 / 1000003) * (w5 % 2147483647 % 40009 + 7 + (b2 + 1)) = w6
      refine ⟨_, rfl, _, _, rfl, rfl, .inr ⟨by decide, by decide⟩, _, rfl, _, _, rfl, rfl, _, _, rfl, rfl, (by show (0 : Int) < _; decide), _, _, rfl, rfl, ⟨by decide, by decide⟩, .int many, rfl, _, _, rfl, rfl, hm, ?_⟩
      exact k _ _ (Int.emod_nonneg _ (by omega)) (Int.emod_lt_of_pos _ hm) ⟨b0, b1, b2 + 1, rfl, h0, h1, h1', by omega, by omega⟩
theorem b01 (b : Bool) : -(2 ^ 64) < (if b = true then (1 : Int) else 0) ∧ (if b = true then (1 : Int) else 0) < 2 ^ 64 := by cases b <;> decide
theorem dip_b0 (c : Int) (b : Bool) : 0 ≤ (if c < 0 then -c else c) * (if b = true then 1 else 0) := by
  cases b with
  | false => simp
  | true =>
    rw [if_pos rfl, Int.mul_one]
    split <;> omega
theorem ok_dip (B : Bt mg) (D : Dd K mg "_law_dip" s__law_dip P__law_dip) : C8.Cal P w K mg base 1 "_law_dip" (spDip K) [] := by
  refine D.cal sc__law_dip (fun vs H Q E h => ?_) (fun f cdv A outer s H vs Q E hr h => ?_)
  · obtain ⟨a, k, ns, rfl, _⟩ := h
    rfl
  · obtain ⟨a, k, ns, rfl, hS, hk, q⟩ := h
    have T := B
    refine ⟨_, (pss_cons (ps_set (i := 2) sc__law_dip.nd rfl (Or.inl rfl) (pe_ifExp (pt_cmpR op_lt (pv 1) (pe_callB call_len_seq (by rfl) T.len PySem.boot_len (pa_cons (pv 0) pa_nil)) (nomark _)) (pe_ix ix_list (pv 0) (pv 1) (fun _ _ => rfl)) pe_int))
        (pss_one (ps_ret (pe_lst (pa_cons (pe_op op_mul (pe_callB call_abs (by rfl) T.abs (by decide +kernel) (pa_cons (pv 2) pa_nil)) (pe_callTy call_int1 (by rfl) T.int (by decide +kernel) (pa_cons (pe_cmpR op_ge (pe_callB call_abs (by rfl) T.abs (by decide +kernel) (pa_cons (pv 2) pa_nil)) (pe_op op_pow pe_int pe_int) (nomark _)) pa_nil))) (pa_cons (pe_op op_add (pe_op op_add (pe_op op_mod (pv 2) pe_int) (pe_op op_mul pe_int (pv 1))) pe_int) (pa_cons pe_int pa_nil))))))), ?_⟩
    have rest : ∀ c : Int, (tRet (tLst (tCons (tOp (rI CMul fun i j => .int (i * j)) (tCB (fun xs H Q => ∃ i, xs = [.int i] ∧ Q (.int (if i < 0 then -i else i)) H) (tCons (tVar 2) tNil))
        (tCB (fun xs H Q => (∃ i, xs = [.int i] ∧ Q (.int i) H) ∨ ∃ k, xs = [.bl k] ∧ Q (.int (if k then 1 else 0)) H) (tCons (tOp (rI0 fun i j => .bl (decide (j ≤ i))) (tCB (fun xs H Q => ∃ i, xs = [.int i] ∧ Q (.int (if i < 0 then -i else i)) H) (tCons (tVar 2) tNil)) (tOp (rI CPow fun i j => .int (i ^ j.toNat)) (tC (.int 10)) (tC (.int 18)))) tNil)))
        (tCons (tOp (rI0 fun i j => .int (i + j)) (tOp (rI0 fun i j => .int (i + j)) (tOp (rI (fun _ j => 0 < j) fun i j => .int (i % j)) (tVar 2) (tC (.int 2305843009213693951))) (tOp (rI CMul fun i j => .int (i * j)) (tC (.int 39373)) (tVar 1))) (tC (.int 17))) (tCons (tC (.int 0)) tNil)))))
        { nx := fun _ H' => Q .non H', rt := Q } [some (.ref a), some (.int k), some (.int c)] H := fun c => by
      refine ⟨_, rfl, c, rfl, _, rfl, c, rfl, _, _, rfl, rfl, ⟨by decide, by decide, by decide⟩, _, _, rfl, rfl, .inr ⟨_, rfl, ?_⟩⟩
      refine ⟨_, _, rfl, rfl, .inr (b01 _), ?_⟩
      refine ⟨_, rfl, _, _, rfl, rfl, (by show (0 : Int) < _; decide), _, rfl, _, _, rfl, rfl, .inl ⟨by decide, by decide⟩, _, _, rfl, rfl, _, _, rfl, rfl, ?_⟩
      refine ⟨by show 3 ≤ sizeLine; decide, fun p hp => q p _ hp ⟨_, _, 0, rfl, dip_b0 c _, ?_, ?_, Int.le_refl _, Int.le_refl _⟩⟩
      · have := Int.emod_nonneg c (show (2305843009213693951 : Int) ≠ 0 by decide)
        omega
      · have := Int.emod_lt_of_pos c (show (0 : Int) < 2305843009213693951 by decide)
        omega
    refine ⟨_, rfl, _, rfl, a, _, rfl, .inl hS, _, _, rfl, rfl, _, rfl, ite2 (fun e => ?_) (fun e => ?_)⟩
    · have hlt : k < ns.length := by
        have := of_decide_eq_true e
        rw [List.length_map] at this
        omega
      have g : (ns.map V.int)[k]? = some (.int ns[k]) := by
        rw [List.getElem?_map, List.getElem?_eq_getElem hlt]
        rfl
      exact ⟨_, rfl, _, rfl, a, _, k, .int ns[k], rfl, rfl, hS, atI_nat g, rest _⟩
    · exact rest 0
theorem ixN_nat {n j : Nat} (h : j < n) : ixN n (j : Int) = some j := by
  unfold ixN
  rw [if_pos (by omega), if_pos (by omega)]
  simp
theorem ok_folded (B : Bt mg) (D : Dd K mg "_law_folded" s__law_folded P__law_folded) : C8.Cal P w K mg base 1 "_law_folded" (spFold K) [] := by
  refine D.cal sc__law_folded (fun vs H Q E h => ?_) (fun f cdv A outer s H vs Q E hr h => ?_)
  · obtain ⟨a, size, ns, rfl, _⟩ := h
    rfl
  · obtain ⟨a, size, ns, rfl, hS, hl, h1, h8, q⟩ := h
    have T := B
    refine ⟨_, (pss_cons (ps_set (i := 2) sc__law_folded.nd rfl (Or.inl rfl) (pe_callTy call_list_of (by rfl) T.list (by decide +kernel) (pa_cons (pe_slice sl_list (pv 0) po_none (po_some (pv 1))) pa_nil)))
        (pss_cons (ps_for PassesOwn.never rfl (pi_enum (by rfl) T.enumerate (pa_cons (pe_slice sl_list (pv 0) (po_some (pv 1)) (po_some pe_int)) pa_nil)) (pg_tup rfl (pgs_cons (pg_name (i := 3) sc__law_folded.nd rfl (Or.inl rfl)) (pgs_cons (pg_name (i := 4) sc__law_folded.nd rfl (Or.inl rfl)) pgs_nil)))
          (pss_one (ps_asg (pe_op op_add (pe_ix ix_list (pv 2) (pe_op op_mod (pv 3) (pv 1)) (fun _ _ => rfl)) (pe_op op_mul (pv 4) (pe_op op_add (pv 3) pe_int))) (pg_sub (pv 2) (pe_op op_mod (pv 3) (pv 1)) set_list))))
        (pss_one (ps_ret (pv 2))))), ?_⟩
    -- cells = list(script[:size])
    refine ⟨_, rfl, _, rfl, _, rfl, a, _, rfl, hS, fun c1 n1 => ⟨c1, _, rfl, .inl (SqL.of upd_same), fun l nl => ?_⟩⟩
    have s1 : Same H (upd H c1 (.lst (cutV (ns.map V.int) none (some (size : Int))))) := same_upd n1
    have s2 := s1.trans (same_upd (o := .lst (cutV (ns.map V.int) none (some (size : Int)))) nl)
    -- enumerate(script[size:63])
    refine ⟨_, rfl, _, rfl, _, rfl, _, rfl, a, _, rfl, s2.seq hS, fun c2 n2 => ⟨c2, _, rfl, SqL.of upd_same, ?_⟩⟩
    have nlc : l ≠ c2 := fun e => by
      rw [e] at n2
      rw [← e, upd_same] at n2
      cases n2
    refine for_it walk_enum (fun i σ H3 => ∃ y3 y4, ∃ ms : List Int, σ = [some (.ref a), some (.int size), some (.ref l), y3, y4] ∧ Same H H3 ∧ H3 c2 = some (.lst (cutV (ns.map V.int) (some (size : Int)) (some 63))) ∧ H3 l = some (.lst (ms.map V.int)) ∧ ms.length = min size ns.length)
      ⟨none, none, ns.take size, rfl, s2.trans (same_upd n2), upd_same, ?_, by rw [List.length_take]⟩ (fun i σ H3 _ ⟨_, _, _, _, _, hc, _⟩ => SqL.of hc) ?_ ?_
    · rw [upd_ne nlc, upd_same, cut_to]
    · rintro i v σ H3 H4 hi ⟨y3, y4, ms, rfl, sm, hc, hm, hml⟩ ⟨T, x, y, rfl, nT, rfl, ex, ey⟩
      cases ex
      obtain ⟨rs, ers, _⟩ := cut_ints ns (some (size : Int)) (some 63)
      have hsz : size ≤ ns.length := by
        apply Classical.byContradiction
        intro hh
        rw [cut_from_nil ns size (by omega)] at hi
        simp at hi
      have hms : ms.length = size := by omega
      rw [ers] at ey
      rw [ers, List.length_map] at hi
      have ey' : y = .int rs[i] := by
        replace ey : (List.map V.int rs)[i]? = some y := ey
        rw [List.getElem?_map, List.getElem?_eq_getElem hi] at ey
        exact (Option.some.inj ey).symm
      subst ey'
      have hi63 : i < 63 := by omega
      have nTl : l ≠ T := ne_of_none hm nT
      have nTc : c2 ≠ T := ne_of_none hc nT
      have hm' : (upd H3 T (.tup [.int (i : Nat), .int rs[i]])) l = some (.lst (ms.map V.int)) := by
        rw [upd_ne nTl]
        exact hm
      have hj : i % size < ms.length := by
        rw [hms]
        exact Nat.mod_lt _ (by omega)
      have g : (ms.map V.int)[i % size]? = some (.int ms[i % size]) := by
        rw [List.getElem?_map, List.getElem?_eq_getElem hj]
        rfl
      have ei : ((i : Nat) : Int) % ((size : Nat) : Int) = ((i % size : Nat) : Int) := by omega
      refine ⟨T, _, rfl, SqT.of upd_same, rfl, _, _, rfl, _, _, rfl, rfl, ?_⟩
      refine ⟨_, rfl, _, rfl, _, rfl, _, _, rfl, rfl, (by show (0 : Int) < _; omega), l, _, _, .int ms[i % size], rfl, rfl, SqL.of hm', ?_, ?_⟩
      · rw [ei]
        exact atI_nat g
      refine ⟨_, rfl, _, rfl, _, _, rfl, rfl, _, _, rfl, rfl, .inr ⟨by omega, by omega⟩, _, _, rfl, rfl, _, rfl, _, rfl, _, rfl, _, _, rfl, rfl, (by show (0 : Int) < _; omega), l, _, _, i % size, rfl, rfl, hm', ?_, ?_⟩
      · rw [ei, List.length_map]
        exact ixN_nat hj
      · refine ⟨_, _, ms.set (i % size) (ms[i % size] + rs[i] * ((i : Int) + 2)), rfl, fun b z e => ?_, ?_, ?_, by rw [List.length_set]; exact hml⟩
        · have nb : b ≠ l := by
            intro eb
            rw [eb] at e
            have e2 := s1 _ _ e
            rw [e2] at nl
            cases nl
          rw [upd_ne nb]
          exact same_upd nT _ _ (sm _ _ e)
        · rw [upd_ne nlc.symm, upd_ne nTc]
          exact hc
        · rw [upd_same, List.map_set]
    · rintro σ H3 ⟨y3, y4, ms, rfl, sm, hc, hm, hml⟩
      exact ⟨_, rfl, q H3 l ms sm (s1.free nl) hm (by omega)⟩
end
/-! ### own_copy, of what is no list and no tuple -/
abbrev s_own_copy : Stmt := top 2
abbrev N_own_copy : List Str := ["thing", "copied", "part"]
abbrev P_own_copy : List Str := ["thing"]
theorem sc_own_copy : FnScope N_own_copy P_own_copy (defScope s_own_copy) := ⟨rfl, rfl, rfl, by decide +kernel, rfl, by decide +kernel, by decide +kernel⟩
def Flat (x : V) : Prop := (∃ i, x = .int i) ∨ ∃ s, x = .str s
structure Ot (mg : Str → Option Value) : Prop where
  isinstance : mg "isinstance" = none
  list : mg "list" = none
  tuple : mg "tuple" = none
def spOwn : Sp := fun vs H Q _ => ∃ x : V, vs = [x] ∧ Flat x ∧ ∀ H', Same H H' → Q x H'
section
variable {P : Program} {w : World} {K : PySem.W.Frag} {mg : Str → Option Value} {base : Heap}
theorem ok_own (T : Ot mg) (D : Dd K mg "own_copy" s_own_copy P_own_copy) : C8.Cal P w K mg base 1 "own_copy" spOwn [] := by
  refine D.cal sc_own_copy (fun vs H Q E h => ?_) (fun f cdv A outer s H vs Q E hr h => ?_)
  · obtain ⟨x, rfl, _⟩ := h
    rfl
  · obtain ⟨x, rfl, hx, q⟩ := h
    refine ⟨_, (pss_cons (ps_if (pt_not (pt_val (pe_callB call_isiT (by rfl) T.isinstance (by decide +kernel) (pa_cons (pv 0) (pa_cons (pe_tup (pa_cons (pe_bltn (v := .ty "list") rfl T.list (by decide +kernel) rfl) (pa_cons (pe_bltn (v := .ty "tuple") rfl T.tuple (by decide +kernel) rfl) pa_nil))) pa_nil)))))
          (pss_one (ps_ret (pv 0)))
          pss_nil)
        (pss_cons ps_never
        (pss_cons ps_never
        (pss_cons ps_never
        (pss_one ps_never))))), ?_⟩
    rcases hx with ⟨i, rfl⟩ | ⟨z, rfl⟩
    · refine ⟨_, rfl, by show 2 ≤ sizeLine; decide, fun tp nt => ?_⟩
      refine ⟨.int i, tp, _, .type "int", [.type "list", .type "tuple"], false, rfl, upd_same, .cons (.ty "list") (.cons (.ty "tuple") .nil), .base (.int i),
        kitAny_cons (b := false) (kit_ty (by decide +kernel)) (fun _ => kitAny_cons (b := false) (kit_ty (by decide +kernel)) (fun _ => kitAny_nil) (fun e => nomatch e)) (fun e => nomatch e), _, rfl, ?_⟩
      refine iteT ⟨_, rfl, q _ (same_upd nt)⟩
    · refine ⟨_, rfl, by show 2 ≤ sizeLine; decide, fun tp nt => ?_⟩
      refine ⟨.str z, tp, _, .type "str", [.type "list", .type "tuple"], false, rfl, upd_same, .cons (.ty "list") (.cons (.ty "tuple") .nil), .base (.str z),
        kitAny_cons (b := false) (kit_ty (by decide +kernel)) (fun _ => kitAny_cons (b := false) (kit_ty (by decide +kernel)) (fun _ => kitAny_nil) (fun e => nomatch e)) (fun e => nomatch e), _, rfl, ?_⟩
      refine iteT ⟨_, rfl, q _ (same_upd nt)⟩
end
/-! ### an own error of two fields, flat ones -/
abbrev s_NotLet : Stmt := inClass (top 6) 0
abbrev N_NotLet : List Str := ["self", "op", "under"]
theorem sc_NotLet : FnScope N_NotLet N_NotLet (defScope s_NotLet) := ⟨rfl, rfl, rfl, by decide +kernel, rfl, by decide +kernel, by decide +kernel⟩
def spTwoF (C : Addr) (f1 f2 : Str) : Sp := fun vs H Q _ => ∃ (e : Addr) (x y : V), vs = [.ref e, x, y] ∧ Flat x ∧ Flat y ∧ H e = some (exo e C none) ∧
  ∀ (H' : Hp) (d : Addr), H d = none → d ≠ e → H' e = some (exo e C (some d)) → H' d = some (exd d [(f2, y), (f1, x)]) → But e H H' → Q .non H'
/-- what stands behind the top of such a class, its __init__ among it -/
structure OxD (K : PySem.W.Frag) (mg : Str → Option Value) (C : Addr) (B : String) (x qual : Str) (st : Stmt) (ps : List Str) : Prop where
  ex : ∃ (f : Addr) (fd : FuncData), L2.Fun K "__init__" qual st f fd ∧ Binds K fd ps [] ∧ PySem.W.findIn K (.ref C) "__init__" = some (some (.ref f)) ∧ PySem.W.typeIn K (.ref f) = some (.type "function")
  ox : OxC K C B
  mg : mg x = some (.ref C)
section
variable {P : Program} {w : World} {K : PySem.W.Frag} {mg : Str → Option Value} {base : Heap} {C : Addr}
theorem ok_notlet {f : Addr} {fd : FuncData} (cown_copy : C8.Cal P w K mg base 1 "own_copy" spOwn []) (F : L2.Fun K "__init__" "NotLet.__init__" s_NotLet f fd) (O : OxC K C "ValueError") (b : BInit K "ValueError") (mV : mg "ValueError" = none)
    (h1 : PySem.W.findIn K (.ref C) "op" = some none) (h2 : PySem.W.findIn K (.ref C) "under" = some none) : FnOk P w K mg base CX0 2 f fd N_NotLet (spTwoF C "op" "under") := by
  refine F.ok sc_NotLet (fun vs H Q E h => ?_) (fun cdv A outer s H vs Q E hr h => ?_)
  · obtain ⟨e, x, y, rfl, _⟩ := h
    rfl
  · obtain ⟨e, x, y, rfl, hx, hy, he, q⟩ := h
    refine ⟨_, pss_cons (ps_expr (pe_binit b (by rfl) mV (pa_cons (pv 0) (pa_cons pe_str pa_nil)))) (pss_cons (ps_oxs (pv 0) (C8.pe_c cown_copy hr (by decide) (by rfl) (pa_cons (pv 1) pa_nil))) (pss_one (ps_oxs (pv 0) (C8.pe_c cown_copy hr (by decide) (by rfl) (pa_cons (pv 2) pa_nil))))), ?_⟩
    refine ⟨_, rfl, e, C, _, rfl, by show 1 ≤ 1000; decide, O, he, ?_⟩
    refine ⟨_, rfl, x, rfl, hx, fun H1 s1 => ?_⟩
    refine ⟨_, rfl, e, C, "ValueError", rfl, O, h1, .inl ⟨s1 _ _ he, fun d nd nde => ?_⟩⟩
    refine ⟨_, rfl, y, rfl, hy, fun H2 s2 => ?_⟩
    have e2 : H2 e = some (exo e C (some d)) := s2 _ _ upd_same
    have d2 : H2 d = some (exd d [("op", x)]) := s2 _ _ (by rw [upd_ne nde, upd_same])
    refine ⟨_, rfl, e, C, "ValueError", rfl, O, h2, .inr ⟨d, _, e2, d2, by show 1 ≤ 900; decide, ?_⟩⟩
    refine q _ d (s1.free nd) nde (by rw [upd_ne nde.symm]; exact e2) upd_same fun z o n hz => ?_
    have nz : z ≠ d := ne_of_none (s1 _ _ hz) nd
    rw [upd_ne nz]
    refine s2 _ _ ?_
    rw [upd_ne n, upd_ne nz]
    exact s1 _ _ hz
end
/-! ### single reckonings -/
inductive Op where
  | copy | plus | less | times | over | rest | least | most | same | under | pick
  deriving DecidableEq
def Op.w : Op → Str
  | .copy => "copy"
  | .plus => "plus"
  | .less => "less"
  | .times => "times"
  | .over => "over"
  | .rest => "rest"
  | .least => "least"
  | .most => "most"
  | .same => "same"
  | .under => "under"
  | .pick => "pick"
def Op.n : Op → Nat
  | .copy => 1
  | .pick => 3
  | _ => 2
def Op.val : Op → List Int → V
  | .copy, [a] => .int a
  | .plus, [a, b] => .int ((a + b) % 1000000)
  | .less, [a, b] => .int ((a - b) % 1000000)
  | .times, [a, b] => .int (a * b % 1000000)
  | .over, [a, b] => if b = 0 then .non else .int (a / b)
  | .rest, [a, b] => if b = 0 then .non else .int (a % b)
  | .least, [a, b] => .int (if b < a then b else a)
  | .most, [a, b] => .int (if b > a then b else a)
  | .same, [a, b] => .int (if a = b then 1 else 0)
  | .under, [a, b] => .int (if a < b then 1 else 0)
  | .pick, [a, b, c] => .int (if 0 < a then b else c)
  | _, _ => .non
def Worths (ns : List Int) : Prop := ∀ n ∈ ns, 0 ≤ n ∧ n < 1000000
theorem len1 {ns : List Int} (h : ns.length = 1) : ∃ a, ns = [a] := match ns, h with
  | [a], _ => ⟨a, rfl⟩
theorem len2 {ns : List Int} (h : ns.length = 2) : ∃ a b, ns = [a, b] := match ns, h with
  | [a, b], _ => ⟨a, b, rfl⟩
theorem len3 {ns : List Int} (h : ns.length = 3) : ∃ a b c, ns = [a, b, c] := match ns, h with
  | [a, b, c], _ => ⟨a, b, c, rfl⟩
def spAct (o : Op) : Sp := fun vs H Q _ => ∃ ns : List Int, vs = ns.map V.int ∧ ns.length = o.n ∧ Worths ns ∧ Q (o.val ns) H
/-- a def that stands in the table of reckonings -/
structure ActAt (K : PySem.W.Frag) (w : World) (RD : Addr) (o : Op) (x : Str) (st : Stmt) (ps : List Str) : Prop where
  ex : ∃ (f : Addr) (fd : FuncData), L2.Fun K x x st f fd ∧ Binds K fd ps [] ∧ KDct K w RD o.w (.ref f)
structure At (mg : Str → Option Value) : Prop where
  bound : ∃ u, mg "BOUND" = some u ∧ RelV (.int 1000000) u
  min : mg "min" = none
  max : mg "max" = none
def Has (P : Program) (w : World) (K : PySem.W.Frag) (mg : Str → Option Value) (base : Heap) (RD : Addr) (o : Op) : Prop := ∃ f, KDct K w RD o.w (.ref f) ∧ Held P w K mg base 1 f (spAct o)
abbrev s_copy_of : Stmt := top 11
abbrev N_copy_of : List Str := ["first"]
abbrev P_copy_of : List Str := ["first"]
theorem sc_copy_of : FnScope N_copy_of P_copy_of (defScope s_copy_of) := ⟨rfl, rfl, rfl, by decide +kernel, rfl, by decide +kernel, by decide +kernel⟩
abbrev s_plus_of : Stmt := top 12
abbrev N_plus_of : List Str := ["first", "second"]
abbrev P_plus_of : List Str := ["first", "second"]
theorem sc_plus_of : FnScope N_plus_of P_plus_of (defScope s_plus_of) := ⟨rfl, rfl, rfl, by decide +kernel, rfl, by decide +kernel, by decide +kernel⟩
abbrev s_less_of : Stmt := top 13
abbrev N_less_of : List Str := ["first", "second"]
abbrev P_less_of : List Str := ["first", "second"]
theorem sc_less_of : FnScope N_less_of P_less_of (defScope s_less_of) := ⟨rfl, rfl, rfl, by decide +kernel, rfl, by decide +kernel, by decide +kernel⟩
abbrev s_times_of : Stmt := top 14
abbrev N_times_of : List Str := ["first", "second"]
abbrev P_times_of : List Str := ["first", "second"]
theorem sc_times_of : FnScope N_times_of P_times_of (defScope s_times_of) := ⟨rfl, rfl, rfl, by decide +kernel, rfl, by decide +kernel, by decide +kernel⟩
abbrev s_over_of : Stmt := top 15
abbrev N_over_of : List Str := ["first", "second"]
abbrev P_over_of : List Str := ["first", "second"]
theorem sc_over_of : FnScope N_over_of P_over_of (defScope s_over_of) := ⟨rfl, rfl, rfl, by decide +kernel, rfl, by decide +kernel, by decide +kernel⟩
abbrev s_rest_of_two : Stmt := top 16
abbrev N_rest_of_two : List Str := ["first", "second"]
abbrev P_rest_of_two : List Str := ["first", "second"]
theorem sc_rest_of_two : FnScope N_rest_of_two P_rest_of_two (defScope s_rest_of_two) := ⟨rfl, rfl, rfl, by decide +kernel, rfl, by decide +kernel, by decide +kernel⟩
abbrev s_least_of : Stmt := top 17
abbrev N_least_of : List Str := ["first", "second"]
abbrev P_least_of : List Str := ["first", "second"]
theorem sc_least_of : FnScope N_least_of P_least_of (defScope s_least_of) := ⟨rfl, rfl, rfl, by decide +kernel, rfl, by decide +kernel, by decide +kernel⟩
abbrev s_most_of : Stmt := top 18
abbrev N_most_of : List Str := ["first", "second"]
abbrev P_most_of : List Str := ["first", "second"]
theorem sc_most_of : FnScope N_most_of P_most_of (defScope s_most_of) := ⟨rfl, rfl, rfl, by decide +kernel, rfl, by decide +kernel, by decide +kernel⟩
abbrev s_same_of : Stmt := top 19
abbrev N_same_of : List Str := ["first", "second"]
abbrev P_same_of : List Str := ["first", "second"]
theorem sc_same_of : FnScope N_same_of P_same_of (defScope s_same_of) := ⟨rfl, rfl, rfl, by decide +kernel, rfl, by decide +kernel, by decide +kernel⟩
abbrev s_under_of : Stmt := top 20
abbrev N_under_of : List Str := ["first", "second"]
abbrev P_under_of : List Str := ["first", "second"]
theorem sc_under_of : FnScope N_under_of P_under_of (defScope s_under_of) := ⟨rfl, rfl, rfl, by decide +kernel, rfl, by decide +kernel, by decide +kernel⟩
abbrev s_pick_of : Stmt := top 21
abbrev N_pick_of : List Str := ["first", "second", "third"]
abbrev P_pick_of : List Str := ["first", "second", "third"]
theorem sc_pick_of : FnScope N_pick_of P_pick_of (defScope s_pick_of) := ⟨rfl, rfl, rfl, by decide +kernel, rfl, by decide +kernel, by decide +kernel⟩
section
variable {P : Program} {w : World} {K : PySem.W.Frag} {mg : Str → Option Value} {base : Heap} {RD : Addr}
theorem ActAt.held {o : Op} {x : Str} {st : Stmt} {N ps : List Str} (D : ActAt K w RD o x st ps) (S : FnScope N ps (defScope st)) (hl : o.n = ps.length)
    (hbody : ∀ (f : Addr) (cdv : Value) (A : Around) (outer : List Env) (s : Shared) (H : Hp) (ns : List Int) (Q : VK) (E : XK), Room 0 (A.deeper (envOfC x (defScope st) s.heap.objs.size f cdv)) → ns.length = o.n → Worths ns → Q (o.val ns) H →
      ∃ t, PSs (cxOf CX0 P w K mg base N x (defScope st) f cdv A outer s H E).nox (defBody st) t ∧ t { nx := fun _ H' => Q .non H', rt := Q } (start N (ns.map V.int)) H) : Has P w K mg base RD o := by
  obtain ⟨f, fd, F, b, kd⟩ := D.ex
  refine ⟨f, kd, ⟨fd, ps, F.ok S (fun vs H Q E h => ?_) (fun cdv A outer s H vs Q E hr h => ?_), F.kp, b⟩⟩
  · obtain ⟨ns, rfl, h1, _⟩ := h
    rw [List.length_map, h1, hl]
  · obtain ⟨ns, rfl, h1, h2, q⟩ := h
    exact hbody f cdv A outer s H ns Q E hr h1 h2 q
theorem ok_copy (T : At mg) (D : ActAt K w RD .copy "copy_of" s_copy_of P_copy_of) : Has P w K mg base RD .copy := by
  refine D.held sc_copy_of rfl (fun f cdv A outer s H ns Q E hr hl hw q => ?_)
  obtain ⟨a, rfl⟩ := len1 hl
  refine ⟨_, (pss_one (ps_ret (pv 0))), ?_⟩
  exact ⟨_, rfl, q⟩
theorem ok_plus (T : At mg) (D : ActAt K w RD .plus "plus_of" s_plus_of P_plus_of) : Has P w K mg base RD .plus := by
  refine D.held sc_plus_of rfl (fun f cdv A outer s H ns Q E hr hl hw q => ?_)
  obtain ⟨a, b, rfl⟩ := len2 hl
  refine ⟨_, (pss_one (ps_ret (pe_op op_mod (pe_op op_add (pv 0) (pv 1)) (C8.pe_gc (v := .int 1000000) rfl T.bound)))), ?_⟩
  exact ⟨_, rfl, _, rfl, _, _, rfl, rfl, _, _, rfl, rfl, (by show (0 : Int) < _; decide), q⟩
theorem ok_less (T : At mg) (D : ActAt K w RD .less "less_of" s_less_of P_less_of) : Has P w K mg base RD .less := by
  refine D.held sc_less_of rfl (fun f cdv A outer s H ns Q E hr hl hw q => ?_)
  obtain ⟨a, b, rfl⟩ := len2 hl
  refine ⟨_, (pss_one (ps_ret (pe_op op_mod (pe_op op_sub (pv 0) (pv 1)) (C8.pe_gc (v := .int 1000000) rfl T.bound)))), ?_⟩
  exact ⟨_, rfl, _, rfl, _, _, rfl, rfl, _, _, rfl, rfl, (by show (0 : Int) < _; decide), q⟩
theorem Worths.two {a b : Int} (h : Worths [a, b]) : (0 ≤ a ∧ a < 1000000) ∧ 0 ≤ b ∧ b < 1000000 := ⟨h a (by simp), h b (by simp)⟩
theorem ok_times (T : At mg) (D : ActAt K w RD .times "times_of" s_times_of P_times_of) : Has P w K mg base RD .times := by
  refine D.held sc_times_of rfl (fun f cdv A outer s H ns Q E hr hl hw q => ?_)
  obtain ⟨a, b, rfl⟩ := len2 hl
  obtain ⟨h1, h2⟩ := hw.two
  refine ⟨_, (pss_one (ps_ret (pe_op op_mod (pe_op op_mul (pv 0) (pv 1)) (C8.pe_gc (v := .int 1000000) rfl T.bound)))), ?_⟩
  exact ⟨_, rfl, _, rfl, _, _, rfl, rfl, .inl ⟨by omega, by omega⟩, _, _, rfl, rfl, (by show (0 : Int) < _; decide), q⟩
theorem int_eq0 {b : Int} : (decide (V.int b = V.int 0)) = decide (b = 0) := by
  by_cases h : b = 0
  · subst h
    simp
  · rw [decide_eq_false h, decide_eq_false (fun e => h (V.int.inj e))]
theorem ok_over (T : At mg) (D : ActAt K w RD .over "over_of" s_over_of P_over_of) : Has P w K mg base RD .over := by
  refine D.held sc_over_of rfl (fun f cdv A outer s H ns Q E hr hl hw q => ?_)
  obtain ⟨a, b, rfl⟩ := len2 hl
  obtain ⟨h1, h2⟩ := hw.two
  refine ⟨_, (pss_cons (ps_if (pt_cmpR op_eq (pv 1) pe_int (nomark _))
        (pss_one (ps_ret pe_non))
        pss_nil)
      (pss_one (ps_ret (pe_op op_fdiv (pv 0) (pv 1))))), ?_⟩
  refine ⟨_, rfl, rfl, _, rfl, ite2 (fun e => ?_) (fun e => ?_)⟩
  · have e0 : b = 0 := V.int.inj (of_decide_eq_true e)
    subst e0
    exact q
  · have e0 : b ≠ 0 := fun z => e (by rw [z]; rfl)
    have q' : Q (.int (a / b)) H := by
      have : Op.val .over [a, b] = .int (a / b) := if_neg e0
      rw [← this]
      exact q
    exact ⟨_, rfl, _, rfl, _, _, rfl, rfl, ⟨by omega, by omega⟩, q'⟩
theorem ok_rest (T : At mg) (D : ActAt K w RD .rest "rest_of_two" s_rest_of_two P_rest_of_two) : Has P w K mg base RD .rest := by
  refine D.held sc_rest_of_two rfl (fun f cdv A outer s H ns Q E hr hl hw q => ?_)
  obtain ⟨a, b, rfl⟩ := len2 hl
  obtain ⟨h1, h2⟩ := hw.two
  refine ⟨_, (pss_cons (ps_if (pt_cmpR op_eq (pv 1) pe_int (nomark _))
        (pss_one (ps_ret pe_non))
        pss_nil)
      (pss_one (ps_ret (pe_op op_mod (pv 0) (pv 1))))), ?_⟩
  refine ⟨_, rfl, rfl, _, rfl, ite2 (fun e => ?_) (fun e => ?_)⟩
  · have e0 : b = 0 := V.int.inj (of_decide_eq_true e)
    subst e0
    exact q
  · have e0 : b ≠ 0 := fun z => e (by rw [z]; rfl)
    have q' : Q (.int (a % b)) H := by
      have : Op.val .rest [a, b] = .int (a % b) := if_neg e0
      rw [← this]
      exact q
    exact ⟨_, rfl, _, rfl, _, _, rfl, rfl, (by show (0 : Int) < _; omega), q'⟩
theorem ok_least (T : At mg) (D : ActAt K w RD .least "least_of" s_least_of P_least_of) : Has P w K mg base RD .least := by
  refine D.held sc_least_of rfl (fun f cdv A outer s H ns Q E hr hl hw q => ?_)
  obtain ⟨a, b, rfl⟩ := len2 hl
  refine ⟨_, (pss_one (ps_ret (pe_callB (call_min2 rfl) (by rfl) T.min (by decide +kernel) (pa_cons (pv 0) (pa_cons (pv 1) pa_nil))))), ?_⟩
  exact ⟨_, rfl, _, rfl, _, _, rfl, q⟩
theorem ok_most (T : At mg) (D : ActAt K w RD .most "most_of" s_most_of P_most_of) : Has P w K mg base RD .most := by
  refine D.held sc_most_of rfl (fun f cdv A outer s H ns Q E hr hl hw q => ?_)
  obtain ⟨a, b, rfl⟩ := len2 hl
  refine ⟨_, (pss_one (ps_ret (pe_callB (call_max2 rfl) (by rfl) T.max (by decide +kernel) (pa_cons (pv 0) (pa_cons (pv 1) pa_nil))))), ?_⟩
  exact ⟨_, rfl, _, rfl, _, _, rfl, q⟩
theorem ok_same (T : At mg) (D : ActAt K w RD .same "same_of" s_same_of P_same_of) : Has P w K mg base RD .same := by
  refine D.held sc_same_of rfl (fun f cdv A outer s H ns Q E hr hl hw q => ?_)
  obtain ⟨a, b, rfl⟩ := len2 hl
  refine ⟨_, (pss_one (ps_ret (pe_ifExp (pt_cmpR op_eq (pv 0) (pv 1) (nomark _)) pe_int pe_int))), ?_⟩
  refine ⟨_, rfl, _, rfl, rfl, _, rfl, ite2 (fun e => ?_) (fun e => ?_)⟩
  · have e0 : a = b := V.int.inj (of_decide_eq_true e)
    have : Op.val .same [a, b] = .int 1 := congrArg V.int (if_pos e0)
    rw [this] at q
    exact q
  · have e0 : a ≠ b := fun z => e (by rw [z, decide_eq_true rfl])
    have : Op.val .same [a, b] = .int 0 := congrArg V.int (if_neg e0)
    rw [this] at q
    exact q
theorem ok_under (T : At mg) (D : ActAt K w RD .under "under_of" s_under_of P_under_of) : Has P w K mg base RD .under := by
  refine D.held sc_under_of rfl (fun f cdv A outer s H ns Q E hr hl hw q => ?_)
  obtain ⟨a, b, rfl⟩ := len2 hl
  refine ⟨_, (pss_one (ps_ret (pe_ifExp (pt_cmpR op_lt (pv 0) (pv 1) (nomark _)) pe_int pe_int))), ?_⟩
  refine ⟨_, rfl, _, rfl, _, _, rfl, rfl, _, rfl, ite2 (fun e => ?_) (fun e => ?_)⟩
  · have e0 : a < b := of_decide_eq_true e
    have : Op.val .under [a, b] = .int 1 := congrArg V.int (if_pos e0)
    rw [this] at q
    exact q
  · have e0 : ¬ a < b := fun z => e (decide_eq_true z)
    have : Op.val .under [a, b] = .int 0 := congrArg V.int (if_neg e0)
    rw [this] at q
    exact q
theorem ok_pick (T : At mg) (D : ActAt K w RD .pick "pick_of" s_pick_of P_pick_of) : Has P w K mg base RD .pick := by
  refine D.held sc_pick_of rfl (fun f cdv A outer s H ns Q E hr hl hw q => ?_)
  obtain ⟨a, b, c, rfl⟩ := len3 hl
  refine ⟨_, (pss_one (ps_ret (pe_ifExp (pt_cmpR op_gt (pv 0) pe_int (nomark _)) (pv 1) (pv 2)))), ?_⟩
  refine ⟨_, rfl, _, _, rfl, rfl, _, rfl, ite2 (fun e => ?_) (fun e => ?_)⟩
  · have e0 : 0 < a := of_decide_eq_true e
    have : Op.val .pick [a, b, c] = .int b := congrArg V.int (if_pos e0)
    rw [this] at q
    exact ⟨_, rfl, q⟩
  · have e0 : ¬ 0 < a := fun z => e (decide_eq_true z)
    have : Op.val .pick [a, b, c] = .int c := congrArg V.int (if_neg e0)
    rw [this] at q
    exact ⟨_, rfl, q⟩
end
/-! ### reckoned under a cap -/
abbrev s_op_let : Stmt := top 24
abbrev N_op_let : List Str := ["op", "cap"]
abbrev P_op_let : List Str := ["op", "cap"]
theorem sc_op_let : FnScope N_op_let P_op_let (defScope s_op_let) := ⟨rfl, rfl, rfl, by decide +kernel, rfl, by decide +kernel, by decide +kernel⟩
abbrev s_reckoned : Stmt := top 25
abbrev N_reckoned : List Str := ["op", "numbers", "cap", "action", "counted", "number"]
abbrev P_reckoned : List Str := ["op", "numbers", "cap"]
theorem sc_reckoned : FnScope N_reckoned P_reckoned (defScope s_reckoned) := ⟨rfl, rfl, rfl, by decide +kernel, rfl, by decide +kernel, by decide +kernel⟩
theorem ifT {c : Bool} {A B : Prop} (h : c = true) (x : A) : if c = true then A else B := by rw [if_pos h]; exact x
theorem ifF {c : Bool} {A B : Prop} (h : c = false) (x : B) : if c = true then A else B := by rw [if_neg (by rw [h]; decide)]; exact x
theorem toQ {Q : VK} {H : Hp} {v v' : V} (e : v = v') (h : Q v' H) : Q v H := e ▸ h
theorem yesT {σ : L2.St} {H : Hp} {A B : Hp → Prop} (h : A H) : tYes σ H (fun b H3 => if b = true then A H3 else B H3) := by
  show (if true = true then A H else B H)
  exact iteT h
def fineb : Op → Bool
  | .copy => true
  | .plus => true
  | .least => true
  | .most => true
  | _ => false
def cl (c n : Int) : Int := if c < n then c else n
def rv : Op → List Int → Int
  | .copy, [a] => a
  | .plus, [a, b] => (a + b) % 1000000
  | .least, [a, b] => if b < a then b else a
  | .most, [a, b] => if b > a then b else a
  | _, _ => 0
def capv (o : Op) (c : Int) (ns : List Int) : Int := cl c (rv o (ns.map (cl c)))
theorem val_rv {o : Op} {ns : List Int} (h : fineb o = true) (hl : ns.length = o.n) : o.val ns = .int (rv o ns) := by
  cases o with
  | copy => match ns, hl with | [a], _ => rfl
  | plus => match ns, hl with | [a, b], _ => rfl
  | least => match ns, hl with | [a, b], _ => rfl
  | most => match ns, hl with | [a, b], _ => rfl
  | _ => cases h
theorem in_let (o : Op) : inV (.str o.w) [.str "copy", .str "plus", .str "least", .str "most"] = fineb o := by cases o <;> decide +kernel
theorem op_n (o : Op) : 1 ≤ o.n ∧ o.n ≤ 3 := by cases o <;> decide
theorem Same.at_ {H0 H : Hp} {p : Addr} {o : HO} (s : Same H0 H) (n : H0 p = none) : Same H0 (upd H p o) := fun b x e => by
  rw [upd_ne (ne_of_none e n)]
  exact s b x e
theorem Same.new {H0 H : Hp} {p : Addr} {o : HO} (s : Same H0 H) (n : H p = none) : Same H0 (upd H p o) := s.trans (same_upd n)
theorem Same.but {H0 H H' : Hp} {a : Addr} (s : Same H0 H) (n : H0 a = none) (b : But a H H') : Same H0 H' := fun x o e => b x o (ne_of_none e n) (s x o e)
theorem worths_cl {ns : List Int} {c : Int} (h : Worths ns) (h1 : 1 ≤ c) (h2 : c ≤ 9) : Worths (ns.map (cl c)) := fun n hn => by
  obtain ⟨m, hm, rfl⟩ := List.mem_map.mp hn
  have := h m hm
  unfold cl
  split <;> omega
def spOpLet : Sp := fun vs H Q _ => ∃ (o : Op) (c : Int), vs = [.str o.w, .int c] ∧ 1 ≤ c ∧ Q (.bl (fineb o)) H
def spCap (K : PySem.W.Frag) (C : Addr) : Sp := fun vs H Q E => ∃ (o : Op) (p : Addr) (ns : List Int) (c : Int), vs = [.str o.w, .ref p, .int c] ∧ SqL K H p (ns.map V.int) ∧ ns.length = o.n ∧ Worths ns ∧ 1 ≤ c ∧ c ≤ 9 ∧
  ((fineb o = true ∧ ∀ H', Same H H' → Q (.int (capv o c ns)) H') ∨ (fineb o = false ∧ ∀ (H' : Hp) (d : Addr), Same H H' → H d = none → H' d = some (.xd [("under", .int c), ("op", .str o.w)]) → E (.ref C) (some d) H'))
structure Rt (mg : Str → Option Value) (RD LA : Addr) : Prop where
  reck : mg "RECKONINGS" = some (.ref RD)
  let_ : mg "LET" = some (.ref LA)
  min : mg "min" = none
theorem vals_rev {vs : List V} {us : List Value} (h : Vals vs us) : Vals vs.reverse us.reverse := by
  induction h with
  | nil => exact .nil
  | cons a _ ih =>
    rw [List.reverse_cons, List.reverse_cons]
    exact Vals.append ih (.cons a .nil)
/-- a def with keyword-only defaults -/
structure DdK (K : PySem.W.Frag) (mg : Str → Option Value) (x : Str) (st : Stmt) (kws : List (Str × V)) : Prop where
  ex : ∃ (f : Addr) (fd : FuncData), FunD K x x (defArgs st) (defBody st) (defScope st) [] kws f fd ∧ mg x = some (.ref f)
section
variable {P : Program} {w : World} {K : PySem.W.Frag} {mg : Str → Option Value} {base : Heap} {RD LA C : Addr}
theorem ok_op_let (T : Rt mg RD LA) (hL : ∀ H, SqT K H LA [.str "copy", .str "plus", .str "least", .str "most"]) (D : DdK K mg "op_let" s_op_let [("cap", .int 0)]) : KCal P w K mg base 1 "op_let" spOpLet 1 ["cap"] (fun vs zs => vs ++ zs) := by
  obtain ⟨f, fd, F, g⟩ := D.ex
  have ok : FnOk P w K mg base CX0 1 f fd P_op_let spOpLet := by
    refine F.ok sc_op_let (fun vs H Q E h => ?_) (fun cdv A outer s H vs Q E hr h => ?_)
    · obtain ⟨o, c, rfl, _⟩ := h
      rfl
    · obtain ⟨o, c, rfl, hc, q⟩ := h
      refine ⟨_, (pss_cons (ps_if (pt_cmpR op_eq (pv 1) pe_int (nomark _)) (pss_one ps_never) pss_nil)
          (pss_one (ps_ret (pe_cmpR op_in_seq (pv 0) (pe_glob (v := .ref LA) rfl T.let_ rfl) (by with_unfolding_all rfl))))), ?_⟩
      refine ⟨_, rfl, rfl, _, rfl, ifF (by rw [decide_eq_false]; intro z; cases z; omega) ?_⟩
      refine ⟨_, rfl, LA, _, rfl, .inr (hL H), rfl, rfl, ?_⟩
      show Q (.bl (inV (.str o.w) [.str "copy", .str "plus", .str "least", .str "most"])) H
      rw [in_let]
      exact q
  have hk2 := kbindsN (ps := P_op_let) F 1 ["cap"] (fun us ws => us ++ ws) (fun h2 h3 => Vals.append h2 h3) (fun kV doc pm an cdv ct us ws hl hw => match us, ws, hl, hw with
    | [_], [_], _, _ => rfl)
  exact ⟨f, fd, _, _, ok, g, F.kp, hk2⟩
structure Reck (P : Program) (w : World) (K : PySem.W.Frag) (mg : Str → Option Value) (base : Heap) (C : Addr) : Prop where
  c0 : KCalX P w K mg base 4 "reckoned" (spCap K C) 0 ["cap", "numbers", "op"] (fun _ zs => zs.reverse)
  c2 : KCalX P w K mg base 4 "reckoned" (spCap K C) 2 ["cap"] (fun vs zs => vs ++ zs)
theorem ok_reckoned (T : Rt mg RD LA) (As : ∀ o, Has P w K mg base RD o) (cop_let_1_cap : KCal P w K mg base 1 "op_let" spOpLet 1 ["cap"] (fun vs zs => vs ++ zs)) (N : OxD K mg C "ValueError" "NotLet" "NotLet.__init__" s_NotLet N_NotLet)
    (nl : ∀ f fd, L2.Fun K "__init__" "NotLet.__init__" s_NotLet f fd → FnOk P w K mg base CX0 2 f fd N_NotLet (spTwoF C "op" "under")) (D : DdK K mg "reckoned" s_reckoned [("cap", .int 0)]) : Reck P w K mg base C := by
  obtain ⟨f, fd, F, g⟩ := D.ex
  obtain ⟨fN, fdN, FF, bN, iN, tN⟩ := N.ex
  have FN := nl _ _ FF
  have ok : FnOk P w K mg base (L2.CX P w) 4 f fd P_reckoned (spCap K C) := by
    refine F.ok sc_reckoned (fun vs H Q E h => ?_) (fun cdv A outer s H vs Q E hr h => ?_)
    · obtain ⟨o, p, ns, c, rfl, _⟩ := h
      rfl
    · obtain ⟨o, p, ns, c, rfl, hS, hl, hw, c1, c9, hq⟩ := h
      refine ⟨_, (pss_cons (ps_if (PW.pt (pw_and (pt_cmpR op_gt (pv 2) pe_int (nomark _)) (pw_and1 (pt_not (pt_val (pe_kw cop_let_1_cap hr (by decide) (by rfl) (pa_cons (pv 0) pa_nil) (pk_cons (pv 2) pk_nil)))))))
            (pss_one (ps_raise rfl (takes_of rfl rfl rfl rfl) (pmk_ox N.ox iN tN FN (hr.mono (by decide)) bN pass0 (by rfl) N.mg (pa_cons (pv 0) (pa_cons (pv 2) pa_nil)))))
            pss_nil)
          (pss_cons (ps_set (i := 3) sc_reckoned.nd rfl (Or.inl rfl) (pe_ix ix_kdict (pe_glob (v := .ref RD) rfl T.reck rfl) (pv 0) (fun _ _ => rfl)))
          (pss_cons (ps_if (pt_cmpR op_eq (pv 2) pe_int (nomark _)) (pss_one ps_never) pss_nil)
          (pss_cons (ps_setLc (i := 4) (own := [("number", 5)]) (by exact rfl) sc_reckoned.nd rfl rfl (sw_true rfl rfl rfl (by decide +kernel)) (pi_list (pv 1)) (blkOk_by (own := [("number", 5)]) (N := N_reckoned) (sc := defScope s_reckoned) (by decide +kernel)) (fun _ _ _ _ _ => (pg_name (i := 5) sc_reckoned.nd rfl (Or.inl rfl))) (fun _ _ _ _ _ => pts_nil) (fun _ _ _ _ _ => (pe_callB (call_min2 rfl) (by rfl) T.min (by decide +kernel) (pa_cons (pv 5) (pa_cons (pv 2) pa_nil)))))
          (pss_one (ps_ret (pe_callB (call_min2 rfl) (by rfl) T.min (by decide +kernel) (pa_cons (pe_callHS (k := 1) (i := 3) (hr.mono (by decide)) rfl (Or.inl rfl) (pv 4)) (pa_cons (pv 2) pa_nil))))))))), ?_⟩
      obtain ⟨fo, kd, hd⟩ := As o
      refine ⟨_, rfl, _, _, rfl, rfl, _, rfl, ifT (decide_eq_true (by omega)) ?_⟩
      refine ⟨_, rfl, _, rfl, rfl, rfl, o, c, rfl, c1, _, rfl, ?_⟩
      rcases hq with ⟨hf, q⟩ | ⟨hf, q⟩
      · rw [hf]
        refine iteF ?_
        refine ⟨_, rfl, RD, _, _, rfl, rfl, kd, ?_⟩
        refine ⟨_, rfl, rfl, _, rfl, ifF (by rw [decide_eq_false]; intro z; cases z; omega) ?_⟩
        refine ⟨_, rfl, p, rfl, ⟨_, hS⟩, fun D nD => ?_⟩
        refine lc_list (K := K) (a := p) (xs := ns.map V.int) (fun i H' => Same H H' ∧ H' D = some (.lst ((ns.take i).map fun n => .int (cl c n))) ∧ i ≤ ns.length)
          ⟨same_upd nD, upd_same, by omega⟩ (fun i H' _ ⟨sm, _, _⟩ => sm.seq hS) ?_ ?_
        · rintro i x H' hx ⟨sm, hD, hi⟩
          obtain ⟨n, hn, rfl⟩ : ∃ n, ns[i]? = some n ∧ x = .int n := by
            rw [List.getElem?_map] at hx
            cases e : ns[i]? with
            | none =>
              rw [e] at hx
              cases hx
            | some n =>
              rw [e] at hx
              exact ⟨n, rfl, (Option.some.inj hx).symm⟩
          have hi2 : i < ns.length := (List.getElem?_eq_some_iff.mp hn).1
          have h3 := op_n o
          refine ⟨rfl, yesT ?_⟩
          refine ⟨_, rfl, _, rfl, _, _, rfl, _, hD, ?_, Same.at_ sm nD, ?_, by omega⟩
          · rw [List.length_map, List.length_take]
            exact small1000 (by omega)
          · rw [upd_same, List.take_add_one, hn, List.map_append]
            rfl
        · rintro H' ⟨sm, hD, _⟩
          rw [List.length_map, List.take_length] at hD
          have hD2 : H' D = some (.lst ((ns.map (cl c)).map V.int)) := by
            rw [hD, List.map_map]
            rfl
          have hl2 : (ns.map (cl c)).length = o.n := by
            rw [List.length_map]
            exact hl
          refine ⟨fo, _, rfl, hd, _, rfl, D, _, rfl, .inr (SqL.of hD2), ns.map (cl c), rfl, hl2, worths_cl hw c1 c9, ?_⟩
          rw [val_rv hf hl2]
          exact ⟨_, rfl, _, _, rfl, q _ sm⟩
      · rw [hf]
        refine iteT ?_
        refine ⟨_, rfl, _, rfl, by show 2 ≤ 1000; decide, fun a na => ?_⟩
        refine ⟨a, .str o.w, .int c, rfl, .inr ⟨_, rfl⟩, .inl ⟨_, rfl⟩, upd_same, fun H' d nd nda ha hd2 hb => ?_⟩
        refine ⟨rfl, d, _, ha, hd2, ?_, ?_⟩
        · rw [upd_ne nda] at nd
          exact nd
        · rw [upd_ne nda] at nd
          refine q _ d (fun b x e => ?_) nd upd_same
          have nba : b ≠ a := ne_of_none e na
          rw [upd_ne (ne_of_none e nd), del_ne nba]
          refine hb _ _ nba ?_
          rw [upd_ne nba]
          exact e
  have hk0 := kbindsN (ps := P_reckoned) F 0 ["cap", "numbers", "op"] (fun _ zs => zs.reverse) (fun _ h3 => vals_rev h3) (fun kV doc pm an cdv ct us ws hl hw => match us, ws, hl, hw with
    | [], [_, _, _], _, _ => rfl)
  have hk2 := kbindsN (ps := P_reckoned) F 2 ["cap"] (fun us ws => us ++ ws) (fun h2 h3 => Vals.append h2 h3) (fun kV doc pm an cdv ct us ws hl hw => match us, ws, hl, hw with
    | [_, _], [_], _, _ => rfl)
  exact ⟨⟨f, fd, _, _, ok, g, F.kp, hk0⟩, ⟨f, fd, _, _, ok, g, F.kp, hk2⟩⟩
end
/-! ### k03: the law's own defs -/
abbrev s__law_due : Stmt := top 30
abbrev N__law_due : List Str := ["_law_word", "_law_some", "_law_top", "_law_low", "_law_told", "_law_one"]
abbrev P__law_due : List Str := ["_law_word", "_law_some", "_law_top"]
theorem sc__law_due : FnScope N__law_due P__law_due (defScope s__law_due) := ⟨rfl, rfl, rfl, by decide +kernel, rfl, by decide +kernel, by decide +kernel⟩
abbrev s__law_worth : Stmt := top 31
abbrev N__law_worth : List Str := ["_law_box", "_law_top"]
abbrev P__law_worth : List Str := ["_law_box", "_law_top"]
theorem sc__law_worth : FnScope N__law_worth P__law_worth (defScope s__law_worth) := ⟨rfl, rfl, rfl, by decide +kernel, rfl, by decide +kernel, by decide +kernel⟩
structure Lt (mg : Str → Option Value) : Prop where
  isinstance : mg "isinstance" = none
  bool : mg "bool" = none
  min : mg "min" = none
  max : mg "max" = none
  sum : mg "sum" = none
  list : mg "list" = none
  all : mg "all" = none
  range : mg "range" = none
  len : mg "len" = none
  ve : mg "ValueError" = none
def spWorth : Sp := fun vs H Q _ => ∃ (a : Addr) (c : Int) (n : Nat) (b : List V), vs = [.ref a, .int c] ∧ H a = some (.lst b) ∧ BoxL n b ∧ n < 900000 ∧ 1 ≤ c ∧ c ≤ 9 ∧
  ∀ (H' : Hp) (v : Int) (b' : List V), But a H H' → H' a = some (.lst b') → BoxL (n + 3) b' → 0 ≤ v → v < 1000000 → Q (.int v) H'
def spDue : Sp := fun vs H Q _ => ∃ (o : Op) (p : Addr) (ns : List Int) (c : Int), vs = [.str o.w, .ref p, .int c] ∧ H p = some (.lst (ns.map V.int)) ∧ ns.length = o.n ∧ fineb o = true ∧ Worths ns ∧ 1 ≤ c ∧ c ≤ 9 ∧ ∀ H', Same H H' → Q (.int (capv o c ns)) H'
theorem cl_alt (c n : Int) : (if n < c then n else c) = cl c n := by
  unfold cl
  split <;> split <;> omega
def tD (a s m M : Int) : List (Key × V) := [(.inr "copy", .int a), (.inr "plus", .int s), (.inr "least", .int m), (.inr "most", .int M)]
def dt : Op → Int → Int → Int → Int → Int
  | .copy, a, _, _, _ => a
  | .plus, _, s, _, _ => s
  | .least, _, _, m, _ => m
  | _, _, _, _, M => M
theorem look_told {o : Op} {a s m M : Int} (h : fineb o = true) : valV (mergeK [] (tD a s m M)) (.inr o.w : Key) = some (.int (dt o a s m M)) := by
  cases o <;> first
    | rfl
    | cases h
theorem dt_rv {o : Op} {ls : List Int} {a m M : Int} (hf : fineb o = true) (hl : ls.length = o.n) (hb : ∀ n ∈ ls, 0 ≤ n ∧ n ≤ 9) (ha : ls[0]? = some a) (m1 : m ∈ ls) (m2 : ∀ y ∈ ls, m ≤ y) (M1 : M ∈ ls) (M2 : ∀ y ∈ ls, y ≤ M) : dt o a ls.sum m M = rv o ls := by
  cases o with
  | copy =>
    match ls, hl with
    | [x], _ => exact (Option.some.inj ha).symm
  | plus =>
    match ls, hl with
    | [x, y], _ =>
      have h1 := hb x (by simp)
      have h2 := hb y (by simp)
      show [x, y].sum = (x + y) % 1000000
      simp only [List.sum_cons, List.sum_nil]
      omega
  | least =>
    match ls, hl with
    | [x, y], _ =>
      have h1 := m2 x (by simp)
      have h2 := m2 y (by simp)
      show m = if y < x then y else x
      simp only [List.mem_cons, List.not_mem_nil, or_false] at m1
      split <;> omega
  | most =>
    match ls, hl with
    | [x, y], _ =>
      have h1 := M2 x (by simp)
      have h2 := M2 y (by simp)
      show M = if y > x then y else x
      simp only [List.mem_cons, List.not_mem_nil, or_false] at M1
      split <;> omega
  | _ => cases hf
section
variable {P : Program} {w : World} {K : PySem.W.Frag} {mg : Str → Option Value} {base : Heap} {RD : Addr}
theorem ok_worth (c_law_take : C8.Cal P w K mg base 1 "_law_take" spTake []) (D : Dd K mg "_law_worth" s__law_worth P__law_worth) : C8.Cal P w K mg base 2 "_law_worth" spWorth [] := by
  refine D.cal sc__law_worth (fun vs H Q E h => ?_) (fun f cdv A outer s H vs Q E hr h => ?_)
  · obtain ⟨a, c, n, b, rfl, _⟩ := h
    rfl
  · obtain ⟨a, c, n, b, rfl, ha, hB, hn, c1, c9, q⟩ := h
    refine ⟨_, (pss_one (ps_ret (pe_ix ix_list (pe_lst (pa_cons pe_int (pa_cons (C8.pe_c c_law_take hr (by decide) (by rfl) (pa_cons (pv 0) (pa_cons (pe_op op_add (pv 1) pe_int) pa_nil))) (pa_cons (pv 1) (pa_cons (pe_op op_add (pv 1) pe_int) (pa_cons (pe_op op_sub (pe_op op_sub (pe_op op_pow pe_int pe_int) pe_int) (C8.pe_c c_law_take hr (by decide) (by rfl) (pa_cons (pv 0) (pa_cons pe_int pa_nil)))) pa_nil)))))) (C8.pe_c c_law_take hr (by decide) (by rfl) (pa_cons (pv 0) (pa_cons pe_int pa_nil))) (fun _ _ => rfl)))), ?_⟩
    refine ⟨_, rfl, _, rfl, _, _, rfl, rfl, a, _, n, b, rfl, ha, hB, by omega, by omega, by omega, fun r1 b1 h1 h1' hB1 => ?_⟩
    refine ⟨_, rfl, _, rfl, _, _, rfl, rfl, _, _, rfl, rfl, ⟨by decide, by decide, by decide⟩, _, _, rfl, rfl, _, rfl, a, 3, n + 1, b1, rfl, upd_same, hB1, by omega, by decide, by decide, fun r2 b2 h2 h2' hB2 => ?_⟩
    refine ⟨_, _, rfl, rfl, by show 5 ≤ sizeLine; decide, fun l nl => ?_⟩
    have nla : a ≠ l := fun e => by
      rw [← e, upd_same] at nl
      cases nl
    refine ⟨_, rfl, a, 5, n + 2, b2, rfl, ?_, hB2, by omega, by decide, by decide, fun r3 b3 h3 h3' hB3 => ?_⟩
    · rw [upd_ne nla, upd_same]
    · have bt : But a H (upd (upd (upd (upd H a (.lst b1)) a (.lst b2)) l (.lst [.int 0, .int r1, .int c, .int (c + 1), .int (10 ^ Int.toNat 6 - 1 - r2)])) a (.lst b3)) :=
        But.upd (But.new (But.upd (But.upd (But.refl a H))) nl)
      have e6 : (10 : Int) ^ Int.toNat 6 = 1000000 := by decide
      have hL : SqL K (upd (upd (upd (upd H a (.lst b1)) a (.lst b2)) l (.lst [.int 0, .int r1, .int c, .int (c + 1), .int (10 ^ Int.toNat 6 - 1 - r2)])) a (.lst b3)) l [.int 0, .int r1, .int c, .int (c + 1), .int (10 ^ Int.toNat 6 - 1 - r2)] := SqL.of (by rw [upd_ne nla.symm, upd_same])
      have hc : r3 = 0 ∨ r3 = 1 ∨ r3 = 2 ∨ r3 = 3 ∨ r3 = 4 := by omega
      rcases hc with rfl | rfl | rfl | rfl | rfl
      · exact ⟨l, _, _, _, rfl, rfl, hL, atI_nat (j := 0) rfl, q _ _ b3 bt upd_same hB3 (by decide) (by decide)⟩
      · exact ⟨l, _, _, _, rfl, rfl, hL, atI_nat (j := 1) rfl, q _ _ b3 bt upd_same hB3 h1 (by omega)⟩
      · exact ⟨l, _, _, _, rfl, rfl, hL, atI_nat (j := 2) rfl, q _ _ b3 bt upd_same hB3 (by omega) (by omega)⟩
      · exact ⟨l, _, _, _, rfl, rfl, hL, atI_nat (j := 3) rfl, q _ _ b3 bt upd_same hB3 (by omega) (by omega)⟩
      · exact ⟨l, _, _, _, rfl, rfl, hL, atI_nat (j := 4) rfl, q _ _ b3 bt upd_same hB3 (by rw [e6]; omega) (by rw [e6]; omega)⟩
theorem ok_due (T : Lt mg) (D : Dd K mg "_law_due" s__law_due P__law_due) : C8.Cal P w K mg base 1 "_law_due" spDue [] := by
  refine D.cal sc__law_due (fun vs H Q E h => ?_) (fun f cdv A outer s H vs Q E hr h => ?_)
  · obtain ⟨o, p, ns, c, rfl, _⟩ := h
    rfl
  · obtain ⟨o, p, ns, c, rfl, hp, hl, hf, hw, c1, c9, q⟩ := h
    have hu := hu_of hr
    refine ⟨_, (pss_cons (ps_setLc (i := 3) (own := [("_law_one", 5)]) (by exact rfl) sc__law_due.nd rfl rfl (sw_true rfl rfl rfl (by decide +kernel)) (pi_list (pv 1)) (blkOk_by (own := [("_law_one", 5)]) (N := N__law_due) (sc := defScope s__law_due) (by decide +kernel)) (fun _ _ _ _ _ => (pg_name (i := 5) sc__law_due.nd rfl (Or.inl rfl))) (fun _ _ _ _ _ => pts_nil) (fun _ _ _ _ _ => (pe_callB (call_min2 rfl) (by rfl) T.min (by decide +kernel) (pa_cons (pv 2) (pa_cons (pv 5) pa_nil)))))
        (pss_cons (ps_set (i := 4) sc__law_due.nd rfl (Or.inl rfl) (pe_disp (pps_cons pe_str (pe_ix ix_list (pv 3) pe_int (fun _ _ => rfl)) (pps_cons pe_str (pe_callB (cr_sum rfl) (by rfl) T.sum (by decide +kernel) (pa_cons (pv 3) pa_nil)) (pps_cons pe_str (pe_callB (cr_min rfl) (by rfl) T.min (by decide +kernel) (pa_cons (pv 3) pa_nil)) (pps_cons pe_str (pe_callB (cr_max rfl) (by rfl) T.max (by decide +kernel) (pa_cons (pv 3) pa_nil)) pps_nil)))) (by rfl) (by rfl) (fun z => by cases z) (by decide)))
        (pss_one (ps_ret (pe_callB (call_min2 rfl) (by rfl) T.min (by decide +kernel) (pa_cons (pv 2) (pa_cons (pe_dget hu (pv 4) (pv 0) (fun _ _ => rfl)) pa_nil))))))), ?_⟩
    have h3 := op_n o
    -- low
    refine ⟨_, rfl, p, rfl, ⟨_, SqL.of hp⟩, fun D nD => ?_⟩
    refine lc_list (K := K) (a := p) (xs := ns.map V.int) (fun i H' => Same H H' ∧ H' D = some (.lst ((ns.take i).map fun n => .int (cl c n))) ∧ i ≤ ns.length)
      ⟨same_upd nD, upd_same, by omega⟩ (fun i H' _ ⟨sm, _, _⟩ => SqL.of (sm _ _ hp)) ?_ ?_
    · rintro i x H' hx ⟨sm, hD, hi⟩
      obtain ⟨n, hn, rfl⟩ : ∃ n, ns[i]? = some n ∧ x = .int n := by
        rw [List.getElem?_map] at hx
        cases e : ns[i]? with
        | none =>
          rw [e] at hx
          cases hx
        | some n =>
          rw [e] at hx
          exact ⟨n, rfl, (Option.some.inj hx).symm⟩
      have hi2 : i < ns.length := (List.getElem?_eq_some_iff.mp hn).1
      refine ⟨rfl, yesT ?_⟩
      refine ⟨_, rfl, _, rfl, _, _, rfl, _, hD, ?_, Same.at_ sm nD, ?_, by omega⟩
      · rw [List.length_map, List.length_take]
        exact small1000 (by omega)
      · rw [upd_same, List.take_add_one, hn, List.map_append, cl_alt]
        rfl
    · rintro H' ⟨sm, hD, _⟩
      rw [List.length_map, List.take_length] at hD
      obtain ⟨ls, els⟩ : ∃ ls, ls = ns.map (cl c) := ⟨_, rfl⟩
      have hD2 : H' D = some (.lst (ls.map V.int)) := by
        rw [hD, els, List.map_map]
        rfl
      have hl2 : ls.length = o.n := by
        rw [els, List.length_map]
        exact hl
      have hb : ∀ n ∈ ls, 0 ≤ n ∧ n ≤ 9 := fun n hn => by
        rw [els] at hn
        obtain ⟨m, hm, rfl⟩ := List.mem_map.mp hn
        have := hw m hm
        unfold cl
        split <;> omega
      have hl0 : 0 < ls.length := by omega
      have g0 : ls[0]? = some ls[0] := List.getElem?_eq_getElem hl0
      have e0 : (ls.map V.int)[0]? = some (.int ls[0]) := by rw [List.getElem?_map, g0]; rfl
      intro d nd
      have ndD : D ≠ d := fun z => by
        rw [← z, hD2] at nd
        cases nd
      have hD3 : ∀ z, (upd H' d z) D = some (.lst (ls.map V.int)) := fun z => by
        rw [upd_ne ndD]
        exact hD2
      refine ⟨_, rfl, D, _, 0, .int ls[0], rfl, rfl, SqL.of (hD3 _), atI_nat (j := 0) e0, ?_⟩
      refine ⟨_, rfl, D, ls, rfl, SqL.of (hD3 _), ?_⟩
      refine ⟨_, rfl, D, ls, rfl, SqL.of (hD3 _), hl0, fun m m1 m2 => ?_⟩
      refine ⟨_, rfl, D, ls, rfl, SqL.of (hD3 _), hl0, fun M M1 M2 => ?_⟩
      refine ⟨upd_same, tD ls[0] ls.sum m M, rfl, by show 4 ≤ 15; decide, ?_⟩
      refine ⟨_, rfl, _, rfl, _, rfl, d, .int (dt o ls[0] ls.sum m M), rfl, ?_, ?_⟩
      · rw [← look_told hf]
        exact DGet.k (k := (.inr o.w : Key)) upd_same
      · refine ⟨_, _, rfl, ?_⟩
        refine toQ (v' := .int (capv o c ns)) (congrArg V.int ?_) (q _ ?_)
        · rw [dt_rv hf hl2 hb g0 m1 m2 M1 M2, cl_alt, els]
          rfl
        · rw [upd_upd]
          exact sm.trans (same_upd nd)
end
abbrev s__law_let_right : Stmt := top 32
abbrev N__law_let_right : List Str := ["_law_box", "_law_word", "_law_many", "_law_top", "_law_some", "_law_due_here", "_law_kept", "_law_told", "_law_more", "_law_at", "_law_place", "_law_one"]
abbrev P__law_let_right : List Str := ["_law_box", "_law_word", "_law_many", "_law_top"]
theorem sc__law_let_right : FnScope N__law_let_right P__law_let_right (defScope s__law_let_right) := ⟨rfl, rfl, rfl, by decide +kernel, rfl, by decide +kernel, by decide +kernel⟩
def spLet : Sp := fun vs H Q _ => ∃ (o : Op) (a : Addr) (c : Int) (n : Nat) (b : List V), vs = [.ref a, .str o.w, .int (o.n : Nat), .int c] ∧ fineb o = true ∧ H a = some (.lst b) ∧ BoxL n b ∧ n < 800000 ∧ 1 ≤ c ∧ c ≤ 9 ∧
  ∀ (H' : Hp) (b' : List V), But a H H' → H' a = some (.lst b') → BoxL (n + 20) b' → Q (.bl true) H'
theorem BoxL.mono {n m : Nat} {b : List V} (h : BoxL n b) (l : n ≤ m) : BoxL m b := by
  obtain ⟨b0, b1, b2, e, h0, h1, h2, h3, h4⟩ := h
  exact ⟨b0, b1, b2, e, h0, h1, h2, h3, by omega⟩
theorem Worths.set {ns : List Int} (h : Worths ns) (i : Nat) {v : Int} (hv : 0 ≤ v ∧ v < 1000000) : Worths (ns.set i v) := fun n hn => by
  rcases List.mem_or_eq_of_mem_set hn with e | e
  · exact h n e
  · rw [e]
    exact hv
theorem cl_cl (c n : Int) : cl c (cl c n) = cl c n := by
  unfold cl
  by_cases h : c < n
  · simp [h]
  · simp [h]
theorem capv_cl (o : Op) (c : Int) (ns : List Int) : capv o c (ns.map (cl c)) = capv o c ns := by
  unfold capv
  rw [List.map_map]
  congr 2
  exact List.map_congr_left fun n _ => cl_cl c n
theorem cl_mono {c a b : Int} (h : a ≤ b) : cl c a ≤ cl c b := by
  unfold cl
  split <;> split <;> omega
theorem rv_range {o : Op} {ns : List Int} (hf : fineb o = true) (hl : ns.length = o.n) (h : ∀ n ∈ ns, 0 ≤ n ∧ n ≤ 9) : 0 ≤ rv o ns := by
  cases o with
  | copy => match ns, hl with | [x], _ => exact (h x (by simp)).1
  | plus => match ns, hl with | [x, y], _ => show 0 ≤ (x + y) % 1000000; omega
  | least => match ns, hl with | [x, y], _ => have h1 := h x (by simp); have h2 := h y (by simp); show 0 ≤ if y < x then y else x; split <;> omega
  | most => match ns, hl with | [x, y], _ => have h1 := h x (by simp); have h2 := h y (by simp); show 0 ≤ if y > x then y else x; split <;> omega
  | _ => cases hf
theorem small_cl {ns : List Int} {c : Int} (hw : Worths ns) (c1 : 1 ≤ c) (c9 : c ≤ 9) : ∀ n ∈ ns.map (cl c), 0 ≤ n ∧ n ≤ 9 := fun n hn => by
  obtain ⟨m, hm, rfl⟩ := List.mem_map.mp hn
  have := hw m hm
  unfold cl
  split <;> omega
theorem capv_range {o : Op} {c : Int} {ns : List Int} (hf : fineb o = true) (hl : ns.length = o.n) (hw : Worths ns) (c1 : 1 ≤ c) (c9 : c ≤ 9) : 0 ≤ capv o c ns ∧ capv o c ns ≤ c := by
  have h := rv_range hf (ns := ns.map (cl c)) (by rw [List.length_map]; exact hl) (small_cl hw c1 c9)
  unfold capv
  generalize rv o (ns.map (cl c)) = r at h
  unfold cl
  split <;> omega
theorem rv_mono {o : Op} {ns : List Int} {i : Nat} {v x : Int} (hf : fineb o = true) (hl : ns.length = o.n) (h : ∀ n ∈ ns, 0 ≤ n ∧ n ≤ 9) (hv : v ≤ 9) (hx : ns[i]? = some x) (le : x ≤ v) : rv o ns ≤ rv o (ns.set i v) := by
  cases o with
  | copy =>
    match ns, hl, i, hx with
    | [a], _, 0, hx =>
      have hx := Option.some.inj hx
      show a ≤ v
      omega
  | plus =>
    match ns, hl, i, hx with
    | [a, b], _, 0, hx =>
      have hx := Option.some.inj hx
      have h1 := h a (by simp)
      have h2 := h b (by simp)
      show (a + b) % 1000000 ≤ (v + b) % 1000000
      omega
    | [a, b], _, 1, hx =>
      have hx := Option.some.inj hx
      have h1 := h a (by simp)
      have h2 := h b (by simp)
      show (a + b) % 1000000 ≤ (a + v) % 1000000
      omega
  | least =>
    match ns, hl, i, hx with
    | [a, b], _, 0, hx =>
      have hx := Option.some.inj hx
      show (if b < a then b else a) ≤ (if b < v then b else v)
      split <;> split <;> omega
    | [a, b], _, 1, hx =>
      have hx := Option.some.inj hx
      show (if b < a then b else a) ≤ (if v < a then v else a)
      split <;> split <;> omega
  | most =>
    match ns, hl, i, hx with
    | [a, b], _, 0, hx =>
      have hx := Option.some.inj hx
      show (if b > a then b else a) ≤ (if b > v then b else v)
      split <;> split <;> omega
    | [a, b], _, 1, hx =>
      have hx := Option.some.inj hx
      show (if b > a then b else a) ≤ (if v > a then v else a)
      split <;> split <;> omega
  | _ => cases hf
theorem capv_mono {o : Op} {c : Int} {ns : List Int} {i : Nat} {v x : Int} (hf : fineb o = true) (hl : ns.length = o.n) (hw : Worths ns) (c1 : 1 ≤ c) (c9 : c ≤ 9) (hx : ns[i]? = some x) (le : x ≤ v) : capv o c ns ≤ capv o c (ns.set i v) := by
  unfold capv
  rw [List.map_set]
  refine cl_mono (rv_mono hf (by rw [List.length_map]; exact hl) (small_cl hw c1 c9) ?_ (by rw [List.getElem?_map, hx]; rfl) (cl_mono le))
  unfold cl
  split <;> omega
section
variable {P : Program} {w : World} {K : PySem.W.Frag} {mg : Str → Option Value} {base : Heap} {C : Addr}
theorem dpInts {H : Hp} : ∀ ns : List Int, DpAll K H (ns.map V.int) (ns.map PyData.int)
  | [] => .nil
  | a :: r => .cons (.int a) (dpInts r)
theorem depthInts : ∀ ns : List Int, PyData.depthAll (ns.map PyData.int) ≤ 1
  | [] => by simp [PyData.depthAll]
  | a :: r => by
    have := depthInts r
    simp only [List.map_cons, PyData.depthAll, PyData.depth]
    omega
theorem layInts : ∀ ns : List Int, PyData.canLayAll0 (ns.map PyData.int) = true
  | [] => by simp [PyData.canLayAll0]
  | a :: r => by
    have := layInts r
    simp [PyData.canLayAll0, PyData.canLay0, this]
theorem shapedInts (ns : List Int) : SeqAt.shaped (.list (ns.map PyData.int)) = true := by
  unfold SeqAt.shaped
  have h1 := layInts ns
  have h2 := depthInts ns
  simp only [PyData.canLay0, PyData.depth, Bool.and_eq_true, decide_eq_true_eq]
  exact ⟨h1, decide_eq_true (by omega)⟩
theorem ne_false {x y : V} (h : x = y) : (!decide (x = y)) = false := by
  rw [h, decide_eq_true rfl]
  rfl
theorem ok_let (T : Lt mg) (R : Reck P w K mg base C) (c_law_take : C8.Cal P w K mg base 1 "_law_take" spTake []) (c_law_worth : C8.Cal P w K mg base 2 "_law_worth" spWorth []) (c_law_due : C8.Cal P w K mg base 1 "_law_due" spDue [])
    (D : Dd K mg "_law_let_right" s__law_let_right P__law_let_right) : C8.Cal P w K mg base 5 "_law_let_right" spLet [] := by
  have creckoned_0_cap_numbers_op := R.c0
  have creckoned_2_cap := R.c2
  refine D.cal sc__law_let_right (fun vs H Q E h => ?_) (fun f cdv A outer s H vs Q E hr h => ?_)
  · obtain ⟨o, a, c, n, b, rfl, _⟩ := h
    rfl
  · obtain ⟨o, a, c, n, b, rfl, hf, ha, hB, hn, c1, c9, q⟩ := h
    refine ⟨_, (pss_cons (ps_setLc (i := 4) (own := [("_law_place", 10)]) (by exact rfl) sc__law_let_right.nd rfl rfl (sw_true rfl rfl rfl (by decide +kernel)) (pi_range1 rfl T.range (pa_cons (pv 2) pa_nil)) (blkOk_by (own := [("_law_place", 10)]) (N := N__law_let_right) (sc := defScope s__law_let_right) (by decide +kernel)) (fun _ _ _ _ _ => (pg_name (i := 10) sc__law_let_right.nd rfl (Or.inl rfl))) (fun _ _ _ _ _ => pts_nil) (fun _ _ _ _ _ => (C8.pe_c c_law_worth hr (by decide) (by rfl) (pa_cons (pv 0) (pa_cons (pv 3) pa_nil)))))
        (pss_cons (ps_par rfl sc__law_let_right.nd (i := 5) (j := 6) rfl rfl (by decide) rfl rfl (pa_cons (C8.pe_c c_law_due hr (by decide) (by rfl) (pa_cons (pv 1) (pa_cons (pv 4) (pa_cons (pv 3) pa_nil)))) (pa_cons (pe_callTy call_list_of (by rfl) T.list (by decide +kernel) (pa_cons (pv 4) pa_nil)) pa_nil)) (by rfl))
        (pss_cons (ps_set (i := 7) sc__law_let_right.nd rfl (Or.inl rfl) (pe_kwX creckoned_2_cap hr (by decide) (by rfl) (pa_cons (pv 1) (pa_cons (pv 4) pa_nil)) (pk_cons (pv 3) pk_nil)))
        (pss_cons (ps_if (PW.pt (pw_or (pt_val (pe_callB call_isi (by rfl) T.isinstance (by decide +kernel) (pa_cons (pv 7) (pa_cons (pe_bltn (v := .ty "bool") rfl T.bool (by decide +kernel) rfl) pa_nil)))) (pw_or (pt_cmpR op_ne (pv 7) (pv 5) (nomark _)) (pw_or (pt_cmpR op_ne (pe_kw0X creckoned_0_cap_numbers_op hr (by decide) (by rfl) (pk_cons (pv 3) (pk_cons (pv 4) (pk_cons (pv 1) pk_nil)))) (pv 5) (nomark _)) (pw_or1 (pt_cmpR (op_neD hr.units) (pv 4) (pv 6) (nomark _)))))))
          (pss_one (ps_ret pe_bl))
          pss_nil)
        (pss_cons (ps_if (PW.pt (pw_or (pt_not (pt_chain op_le op_le pe_int (pv 7) (pv 3))) (pw_or1 (pt_cmpR op_ne (pe_kwX creckoned_2_cap hr (by decide) (by rfl) (pa_cons (pv 1) (pa_cons (pe_lc (own := [("_law_one", 11)]) (by exact rfl) sc__law_let_right.nd (pi_list (pv 4)) (blkOk_by (own := [("_law_one", 11)]) (N := N__law_let_right) (sc := defScope s__law_let_right) (by decide +kernel)) (fun _ _ _ _ _ => (pg_name (i := 11) sc__law_let_right.nd rfl (Or.inl rfl))) (fun _ _ _ _ _ => pts_nil) (fun _ _ _ _ _ => (pe_callB (call_min2 rfl) (by rfl) T.min (by decide +kernel) (pa_cons (pv 3) (pa_cons (pv 11) pa_nil))))) pa_nil)) (pk_cons (pv 3) pk_nil)) (pv 5) (nomark _)))))
          (pss_one (ps_ret pe_bl))
          pss_nil)
        (pss_cons (ps_par rfl sc__law_let_right.nd (i := 8) (j := 9) rfl rfl (by decide) rfl rfl (pa_cons (pe_callTy call_list_of (by rfl) T.list (by decide +kernel) (pa_cons (pv 4) pa_nil)) (pa_cons (C8.pe_c c_law_take hr (by decide) (by rfl) (pa_cons (pv 0) (pa_cons (pv 2) pa_nil))) pa_nil)) (by rfl))
        (pss_cons (ps_asg (pe_callB (call_min2 rfl) (by rfl) T.min (by decide +kernel) (pa_cons (pe_op op_sub (pe_op op_pow pe_int pe_int) pe_int) (pa_cons (pe_op op_add (pe_op op_add (pe_ix ix_list (pv 8) (pv 9) (fun _ _ => rfl)) pe_int) (C8.pe_c c_law_take hr (by decide) (by rfl) (pa_cons (pv 0) (pa_cons pe_int pa_nil)))) pa_nil))) (pg_sub (pv 8) (pv 9) set_list))
        (pss_one (ps_ret (pe_cmpR op_ge (pe_kwX creckoned_2_cap hr (by decide) (by rfl) (pa_cons (pv 1) (pa_cons (pv 8) pa_nil)) (pk_cons (pv 3) pk_nil)) (pv 7) (nomark _))))))))))), ?_⟩
    have hon := op_n o
    -- some
    refine ⟨_, rfl, ((o.n : Nat) : Int), rfl, by omega, by omega, fun D nD => ?_⟩
    have naD : a ≠ D := ne_of_none ha nD
    refine lc_range (lo := 0) (n := o.n) (fun i H6 => ∃ b6, ∃ vs : List Int, But a H H6 ∧ H6 D = some (.lst (vs.map V.int)) ∧ vs.length = i ∧ Worths vs ∧ H6 a = some (.lst b6) ∧ BoxL (n + 3 * i) b6)
      ⟨b, [], But.of (same_upd nD), upd_same, rfl, (fun _ h => nomatch h), by rw [upd_ne naD]; exact ha, hB⟩ ?_ ?_
    · rintro i6 H6 hi6 ⟨b6, vs, s6, hD, hv, hw, hb6, hB6⟩
      refine ⟨rfl, yesT ?_⟩
      refine ⟨_, rfl, _, rfl, a, c, _, b6, rfl, hb6, hB6, by omega, c1, c9, fun H7 v b7 hbut hb7 hB7 v0 v1 => ?_⟩
      refine ⟨_, hbut D _ naD.symm hD, by rw [List.length_map]; exact small1000 (by omega), b7, vs ++ [v], ?_, ?_, by rw [List.length_append, hv]; rfl, ?_, ?_, hB7.mono (by omega)⟩
      · intro x o1 n1 e1
        rw [upd_ne (ne_of_none e1 nD)]
        exact hbut _ _ n1 (s6 _ _ n1 e1)
      · rw [upd_same, List.map_append]
        rfl
      · intro n hn
        rcases List.mem_append.mp hn with h | h
        · exact hw n h
        · rw [List.mem_singleton.mp h]
          exact ⟨v0, v1⟩
      · rw [upd_ne naD]
        exact hb7
    · rintro H1 ⟨b1, ns, s1, hD, hl, hw, hb1, hB1⟩
      obtain ⟨z0, z9⟩ := capv_range (c := c) hf hl hw c1 c9
      -- due_here, kept
      refine ⟨_, rfl, _, rfl, _, rfl, o, D, ns, c, rfl, hD, hl, hf, hw, c1, c9, fun H2 s2 => ?_⟩
      refine ⟨_, rfl, D, _, rfl, .inl (SqL.of (s2 _ _ hD)), fun l nl => ?_⟩
      obtain ⟨H3, hH3⟩ : ∃ H3, H3 = upd H2 l (.lst (ns.map V.int)) := ⟨_, rfl⟩
      have s3 : Same H1 H3 := by
        rw [hH3]
        exact s2.trans (same_upd nl)
      have h3l : H3 l = some (.lst (ns.map V.int)) := by
        rw [hH3]
        exact upd_same
      refine ⟨_, _, rfl, ?_⟩
      rw [← hH3]
      -- told
      refine ⟨_, rfl, _, rfl, _, rfl, rfl, rfl, o, D, ns, c, rfl, SqL.of (s3 _ _ hD), hl, hw, c1, c9, .inl ⟨hf, fun H4 s4 => ?_⟩⟩
      have s34 : Same H1 H4 := s3.trans s4
      refine ⟨_, rfl, .int _, .ty "bool", .type "int", .type "bool", false, rfl, .ty "bool", .base (.int _), kit_ty (by decide +kernel), _, rfl, iteF ?_⟩
      refine ⟨_, rfl, _, rfl, rfl, _, rfl, ifF (ne_false rfl) ?_⟩
      refine ⟨_, rfl, _, rfl, _, rfl, rfl, rfl, o, D, ns, c, rfl, SqL.of (s34 _ _ hD), hl, hw, c1, c9, .inl ⟨hf, fun H5 s5 => ?_⟩⟩
      have s35 : Same H1 H5 := s34.trans s5
      refine ⟨_, rfl, rfl, _, rfl, ifF (ne_false rfl) ?_⟩
      refine ⟨_, rfl, _, rfl, .list (ns.map PyData.int), .list (ns.map PyData.int), .lst (SqL.of (s35 _ _ hD)) (dpInts ns), .lst (SqL.of (s5 _ _ (s4 _ _ h3l))) (dpInts ns), shapedInts ns, shapedInts ns, _, rfl, ?_⟩
      refine ifF (by rw [SeqAt.eqv_refl _ (SeqAt.canLay_of_shaped (shapedInts ns))]; rfl) ?_
      refine ⟨_, rfl, _, _, rfl, rfl, _, rfl, ifT (decide_eq_true z0) ?_⟩
      refine ⟨_, rfl, _, _, rfl, rfl, _, rfl, ifF (by rw [decide_eq_true z9]; rfl) ?_⟩
      -- the same of numbers that are cut by hand
      refine ⟨_, rfl, _, rfl, D, rfl, ⟨_, SqL.of (s35 _ _ hD)⟩, fun D2 nD2 => ?_⟩
      refine lc_list (K := K) (a := D) (xs := ns.map V.int) (fun i H' => Same H5 H' ∧ H' D2 = some (.lst ((ns.take i).map fun n => .int (cl c n))) ∧ i ≤ ns.length)
        ⟨same_upd nD2, upd_same, by omega⟩ (fun i H' _ ⟨sm, _, _⟩ => SqL.of (sm _ _ (s35 _ _ hD))) ?_ ?_
      · rintro i x H' hx ⟨sm, hD', hi⟩
        obtain ⟨n, hn, rfl⟩ : ∃ n, ns[i]? = some n ∧ x = .int n := by
          rw [List.getElem?_map] at hx
          cases e : ns[i]? with
          | none =>
            rw [e] at hx
            cases hx
          | some n =>
            rw [e] at hx
            exact ⟨n, rfl, (Option.some.inj hx).symm⟩
        have hi2 : i < ns.length := (List.getElem?_eq_some_iff.mp hn).1
        refine ⟨rfl, yesT ?_⟩
        refine ⟨_, rfl, _, rfl, _, _, rfl, _, hD', ?_, Same.at_ sm nD2, ?_, by omega⟩
        · rw [List.length_map, List.length_take]
          exact small1000 (by omega)
        · rw [upd_same, List.take_add_one, hn, List.map_append, cl_alt]
          rfl
      · rintro H6 ⟨s6, hD6, _⟩
        rw [List.length_map, List.take_length] at hD6
        have hD7 : H6 D2 = some (.lst ((ns.map (cl c)).map V.int)) := by
          rw [hD6, List.map_map]
          rfl
        refine ⟨_, rfl, rfl, rfl, o, D2, ns.map (cl c), c, rfl, SqL.of hD7, by rw [List.length_map]; exact hl, worths_cl hw c1 c9, c1, c9, .inl ⟨hf, fun H7 s7 => ?_⟩⟩
        rw [capv_cl]
        refine ⟨_, rfl, rfl, _, rfl, ifF (ne_false rfl) ?_⟩
        have s37 : Same H1 H7 := s35.trans (s6.trans s7)
        -- more, at
        refine ⟨_, rfl, D, _, rfl, .inl (SqL.of (s37 _ _ hD)), fun m nm => ?_⟩
        have nam : a ≠ m := ne_of_none (s37 _ _ hb1) nm
        have nDm : D ≠ m := ne_of_none (s37 _ _ hD) nm
        refine ⟨_, rfl, _, rfl, a, _, _, b1, rfl, (by rw [upd_ne nam]; exact s37 _ _ hb1), hB1, by omega, by omega, by omega, fun r b2 r0 r1 hB2 => ?_⟩
        refine ⟨_, _, rfl, ?_⟩
        obtain ⟨j, rfl⟩ := Int.eq_ofNat_of_zero_le r0
        have hj : j < ns.length := by omega
        have g : ns[j]? = some ns[j] := List.getElem?_eq_getElem hj
        have g2 : (ns.map V.int)[j]? = some (.int ns[j]) := by rw [List.getElem?_map, g]; rfl
        have hwj := hw _ (List.getElem_mem hj)
        obtain ⟨H8, hH8⟩ : ∃ H8, H8 = upd (upd H7 m (.lst (ns.map V.int))) a (.lst b2) := ⟨_, rfl⟩
        have hm8 : H8 m = some (.lst (ns.map V.int)) := by
          rw [hH8, upd_ne nam.symm]
          exact upd_same
        have ha8 : H8 a = some (.lst b2) := by
          rw [hH8]
          exact upd_same
        have s8 : But a H1 H8 := by
          rw [hH8]
          exact But.upd (But.of (s37.trans (same_upd nm)))
        rw [← hH8]
        refine ⟨_, _, rfl, rfl, ⟨by decide, by decide, by decide⟩, _, _, rfl, rfl, ?_⟩
        refine ⟨_, rfl, _, rfl, m, _, _, .int ns[j], rfl, rfl, SqL.of hm8, atI_nat (j := j) g2, _, _, rfl, rfl, ?_⟩
        refine ⟨_, rfl, a, 3, _, b2, rfl, ha8, hB2, by omega, by decide, by decide, fun r2 b3 h2 h2' hB3 => ?_⟩
        refine ⟨_, _, rfl, rfl, _, _, rfl, ?_⟩
        obtain ⟨v, hv⟩ : ∃ v, v = (if ns[j] + 1 + r2 < 10 ^ Int.toNat 6 - 1 then ns[j] + 1 + r2 else 10 ^ Int.toNat 6 - 1) := ⟨_, rfl⟩
        rw [← hv]
        have e6 : (10 : Int) ^ Int.toNat 6 = 1000000 := by decide
        rw [e6] at hv
        have hv1 : ns[j] ≤ v ∧ v < 1000000 := by
          rw [hv]
          split <;> omega
        have hm9 : (upd H8 a (.lst b3)) m = some (.lst (ns.map V.int)) := by
          rw [upd_ne nam.symm]
          exact hm8
        refine ⟨_, rfl, _, rfl, m, _, _, j, rfl, rfl, hm9, by rw [List.length_map]; exact ixN_nat hj, ?_⟩
        rw [← List.map_set]
        refine ⟨_, rfl, _, rfl, _, rfl, rfl, rfl, o, m, ns.set j v, c, rfl, SqL.of upd_same, by rw [List.length_set]; exact hl, hw.set _ ⟨by omega, hv1.2⟩, c1, c9, .inl ⟨hf, fun H9 s9 => ⟨_, rfl, _, _, rfl, rfl, ?_⟩⟩⟩
        refine toQ (v' := .bl true) (congrArg V.bl (decide_eq_true (capv_mono hf hl hw c1 c9 g hv1.1))) (?_ : Q (.bl true) H9)
        refine q _ b3 (fun x o1 n1 e1 => ?_) ?_ (hB3.mono (by omega))
        · have e2 := s8 _ _ n1 (s1 _ _ n1 e1)
          refine s9 _ _ ?_
          have nxm : x ≠ m := fun z => by
            have e3 := s37 _ _ (s1 _ _ n1 e1)
            rw [z, nm] at e3
            cases e3
          rw [upd_ne nxm, upd_ne n1]
          exact e2
        · refine s9 _ _ ?_
          rw [upd_ne nam, upd_same]
end
abbrev s__law_refused : Stmt := top 33
abbrev N__law_refused : List Str := ["_law_word", "_law_some", "_law_top", "_law_caught", "error"]
abbrev P__law_refused : List Str := ["_law_word", "_law_some", "_law_top"]
theorem sc__law_refused : FnScope N__law_refused P__law_refused (defScope s__law_refused) := ⟨rfl, rfl, rfl, by decide +kernel, rfl, by decide +kernel, by decide +kernel⟩
def spRefused : Sp := fun vs H Q _ => ∃ (o : Op) (p : Addr) (ns : List Int) (c : Int), vs = [.str o.w, .ref p, .int c] ∧ fineb o = false ∧ H p = some (.lst (ns.map V.int)) ∧ ns.length = o.n ∧ Worths ns ∧ 1 ≤ c ∧ c ≤ 9 ∧ ∀ H', Same H H' → Q (.bl true) H'
/-- what the law asks of the error's class -/
structure Nk (K : PySem.W.Frag) (mg : Str → Option Value) (C BG BR NO : Addr) : Prop where
  nl : mg "NotLet" = some (.ref C)
  bg : mg "BadGrammar" = some (.ref BG)
  br : mg "BadRow" = some (.ref BR)
  no : mg "NoOp" = some (.ref NO)
  ex : PySem.W.exmOne K (.ref C) (.ref C) = some true
  xv : XvC K C
  op : PySem.W.findIn K (.ref C) "op" = some none
  under : PySem.W.findIn K (.ref C) "under" = some none
  others : PySem.W.kitAny K (.ref C) [.ref BG, .ref BR, .ref NO] = some false
  ve : PySem.W.kitOne K (.ref C) (.type "ValueError") = some true
theorem takes_no {X : Cx} : Takes X (fun _ _ _ _ => False) := fun _ _ ⟨_, _, _, _, _, _, _, _, _, _, _, _, _, _, _, _, h⟩ => h.elim
section
variable {P : Program} {w : World} {K : PySem.W.Frag} {mg : Str → Option Value} {base : Heap} {C BG BR NO : Addr}
theorem ok_refused (T : Lt mg) (R : Reck P w K mg base C) (N : Nk K mg C BG BR NO) (D : Dd K mg "_law_refused" s__law_refused P__law_refused) : C8.Cal P w K mg base 5 "_law_refused" spRefused [] := by
  have creckoned_2_cap := R.c2
  refine D.cal sc__law_refused (fun vs H Q E h => ?_) (fun f cdv A outer s H vs Q E hr h => ?_)
  · obtain ⟨o, p, ns, c, rfl, _⟩ := h
    rfl
  · obtain ⟨o, p, ns, c, rfl, hf, hp, hl, hw, c1, c9, q⟩ := h
    refine ⟨_, (pss_cons (ps_set (i := 3) sc__law_refused.nd rfl (Or.inl rfl) pe_non)
        (pss_cons (ps_try_keep (i := 4) rfl rfl rfl sc__law_refused.nd rfl rfl ⟨by rfl, by decide, .inl N.nl⟩ takes_no
          (fun W pn xe tk hp => pss_one (ps_expr (pe_kwT creckoned_2_cap hr (by decide) (by rfl) tk (pa_cons (pv 0) (pa_cons (pv 1) pa_nil)) (pk_cons (pv 2) pk_nil))))
          (fun a oe cls d pn hz hd => pss_one (ps_set (i := 3) sc__law_refused.nd rfl (Or.inl rfl) (pv 4))))
        (pss_cons (ps_if (PW.pt (pw_or (pt_cmpR op_isN (pv 3) pe_non (nomark _)) (pw_or (pt_val (pe_callB call_isXvT (by rfl) T.isinstance (by decide +kernel) (pa_cons (pv 3) (pa_cons (pe_tup (pa_cons (pe_glob (v := .ref BG) rfl N.bg rfl) (pa_cons (pe_glob (v := .ref BR) rfl N.br rfl) (pa_cons (pe_glob (v := .ref NO) rfl N.no rfl) pa_nil)))) pa_nil)))) (pw_or1 (pt_not (pt_val (pe_callB call_isXv (by rfl) T.isinstance (by decide +kernel) (pa_cons (pv 3) (pa_cons (pe_bltn (v := .ty "ValueError") rfl T.ve (by decide +kernel) rfl) pa_nil)))))))))
          (pss_one (ps_ret pe_bl))
          pss_nil)
        (pss_one (ps_ret (pe_and (pe_cmpR op_eq (pe_xv (pv 3)) (pv 0) (nomark _)) (pe_one (pe_cmpR op_eq (pe_xv (pv 3)) (pv 2) (nomark _))))))))), ?_⟩
    refine ⟨_, rfl, _, rfl, _, rfl, rfl, rfl, o, p, ns, c, rfl, SqL.of hp, hl, hw, c1, c9, .inr ⟨hf, fun H1 d s1 nd hd => ?_⟩⟩
    refine ⟨C, d, true, rfl, rfl, N.ex, fun _ a na => ?_, fun z => nomatch z⟩
    refine ⟨_, rfl, ?_⟩
    have nda : d ≠ a := ne_of_none hd na
    have s2 : Same H (upd H1 a (exv a C d)) := s1.trans (same_upd na)
    have ha : (upd H1 a (exv a C d)) a = some (exv a C d) := upd_same
    have hd2 : (upd H1 a (exv a C d)) d = some (.xd [("under", .int c), ("op", .str o.w)]) := by
      rw [upd_ne nda]
      exact hd
    refine ⟨_, rfl, rfl, _, rfl, ifF (decide_eq_false (fun z => by cases z)) ?_⟩
    refine ⟨_, rfl, by show 3 ≤ sizeLine; decide, fun tp nt => ?_⟩
    have s3 := same_upd (o := .tup [.ref BG, .ref BR, .ref NO]) nt
    have ha3 := s3 _ _ ha
    have hd3 := s3 _ _ hd2
    refine ⟨a, C, d, tp, _, _, [.ref BG, .ref BR, .ref NO], false, rfl, ha3, N.xv, hd3, upd_same, .cons (.own BG) (.cons (.own BR) (.cons (.own NO) .nil)), N.others, _, rfl, iteF ?_⟩
    refine ⟨_, rfl, a, C, d, _, _, _, true, rfl, ha3, N.xv, hd3, .ty "ValueError", N.ve, _, rfl, iteF ?_⟩
    refine ⟨_, rfl, a, C, d, _, .str o.w, rfl, ha3, N.xv, N.op, hd3, rfl, ?_⟩
    refine ⟨_, rfl, rfl, ?_⟩
    refine ⟨true, congrArg V.bl (decide_eq_true rfl), iteT ?_⟩
    refine ⟨_, rfl, a, C, d, _, .int c, rfl, ha3, N.xv, N.under, hd3, rfl, ?_⟩
    refine ⟨_, rfl, rfl, ?_⟩
    refine toQ (v' := .bl true) (congrArg V.bl (decide_eq_true rfl)) (?_ : Q (.bl true) _)
    exact q _ (s2.trans s3)
end
abbrev s_law : Stmt := top 34
abbrev N_law : List Str := ["_law_script", "_law_cells", "_law_fine", "_law_bad", "_law_k", "_law_box", "_law_top", "_law_word", "_law_many", "_law_some", "_law_turn", "_law_place"]
abbrev P_law : List Str := ["_law_script"]
theorem sc_law : FnScope N_law P_law (defScope s_law) := ⟨rfl, rfl, rfl, by decide +kernel, rfl, by decide +kernel, by decide +kernel⟩
def spLaw (K : PySem.W.Frag) : Sp := fun vs H Q _ => ∃ (a : Addr) (ns : List Int), vs = [.ref a] ∧ SqL K H a (ns.map V.int) ∧ ns.length ≤ 63 ∧ ∀ H', Q (.bl true) H'
/-- a table of ops and how many numbers each is of -/
def OpsAt (H : Hp) (ol : Addr) (n : Nat) (b : Bool) : Prop := ∃ ts : List Addr, H ol = some (.lst (ts.map V.ref)) ∧ ts.length = n ∧ ∀ t ∈ ts, ∃ o : Op, fineb o = b ∧ H t = some (.tup [.str o.w, .int (o.n : Nat)])
section
variable {P : Program} {w : World} {K : PySem.W.Frag} {mg : Str → Option Value} {base : Heap} {RD : Addr}
theorem ok_law (T : Lt mg) (c_law_folded : C8.Cal P w K mg base 1 "_law_folded" (spFold K) []) (c_law_dip : C8.Cal P w K mg base 1 "_law_dip" (spDip K) []) (c_law_take : C8.Cal P w K mg base 1 "_law_take" spTake [])
    (c_law_worth : C8.Cal P w K mg base 2 "_law_worth" spWorth []) (c_law_let_right : C8.Cal P w K mg base 5 "_law_let_right" spLet []) (c_law_refused : C8.Cal P w K mg base 5 "_law_refused" spRefused [])
    (cop_let_1_cap : KCal P w K mg base 1 "op_let" spOpLet 1 ["cap"] (fun vs zs => vs ++ zs))
    {f : Addr} {fd : FuncData} (F : L2.Fun K "law" "law" s_law f fd) : FnOk P w K mg base CX0 6 f fd ["_law_script"] (spLaw K) := by
  refine F.ok sc_law (fun vs H Q E h => ?_) (fun cdv A outer s H vs Q E hr h => ?_)
  · obtain ⟨a, ns, rfl, _⟩ := h
    rfl
  · obtain ⟨a, ns, rfl, hS, hlen, q⟩ := h
    refine ⟨_, (pss_cons (ps_set (i := 1) sc_law.nd rfl (Or.inl rfl) (C8.pe_c c_law_folded hr (by decide) (by rfl) (pa_cons (pv 0) (pa_cons pe_int pa_nil))))
        (pss_cons (ps_par rfl sc_law.nd (i := 2) (j := 3) rfl rfl (by decide) rfl rfl (pa_cons (pe_lst (pa_cons (pe_tup (pa_cons pe_str (pa_cons pe_int pa_nil))) (pa_cons (pe_tup (pa_cons pe_str (pa_cons pe_int pa_nil))) (pa_cons (pe_tup (pa_cons pe_str (pa_cons pe_int pa_nil))) (pa_cons (pe_tup (pa_cons pe_str (pa_cons pe_int pa_nil))) pa_nil))))) (pa_cons (pe_lst (pa_cons (pe_tup (pa_cons pe_str (pa_cons pe_int pa_nil))) (pa_cons (pe_tup (pa_cons pe_str (pa_cons pe_int pa_nil))) (pa_cons (pe_tup (pa_cons pe_str (pa_cons pe_int pa_nil))) pa_nil)))) pa_nil)) (by rfl))
        (pss_cons (ps_set (i := 3) sc_law.nd rfl (Or.inl rfl) (pe_op op_cat (pv 3) (pe_lst (pa_cons (pe_tup (pa_cons pe_str (pa_cons pe_int pa_nil))) (pa_cons (pe_tup (pa_cons pe_str (pa_cons pe_int pa_nil))) (pa_cons (pe_tup (pa_cons pe_str (pa_cons pe_int pa_nil))) (pa_cons (pe_tup (pa_cons pe_str (pa_cons pe_int pa_nil))) pa_nil)))))))
        (pss_cons (ps_for PassesOwn.never rfl (pi_range1 rfl T.range (pa_cons (pe_op op_add pe_int (pe_callB call_len_seq (by rfl) T.len PySem.boot_len (pa_cons (pv 1) pa_nil))) pa_nil)) (pg_name (i := 4) sc_law.nd rfl (Or.inl rfl))
          (pss_cons (ps_set (i := 5) sc_law.nd rfl (Or.inr rfl) (C8.pe_c c_law_dip hr (by decide) (by rfl) (pa_cons (pv 1) (pa_cons (pv 4) pa_nil))))
        (pss_one (ps_for PassesOwn.never rfl (pi_range2 rfl T.range (pa_cons pe_int (pa_cons pe_int pa_nil))) (pg_name (i := 6) sc_law.nd rfl (Or.inr rfl))
          (pss_cons (ps_for PassesOwn.never rfl (pi_list (pv 2)) (pg_tup rfl (pgs_cons (pg_name (i := 7) sc_law.nd rfl (Or.inr rfl)) (pgs_cons (pg_name (i := 8) sc_law.nd rfl (Or.inr rfl)) pgs_nil)))
          (pss_one (ps_if (pt_not (pt_val (pe_callB (cr_all rfl) (by rfl) T.all (by decide +kernel) (pa_cons (pe_lc (own := [("_law_turn", 10)]) (by exact rfl) sc_law.nd (pi_range1 rfl T.range (pa_cons pe_int pa_nil)) (blkOk_by (own := [("_law_turn", 10)]) (N := N_law) (sc := defScope s_law) (by decide +kernel)) (fun _ _ _ _ _ => (pg_name (i := 10) sc_law.nd rfl (Or.inl rfl))) (fun _ _ _ _ _ => pts_nil) (fun _ _ _ _ _ => (C8.pe_c c_law_let_right hr (by decide) (by rfl) (pa_cons (pv 5) (pa_cons (pv 7) (pa_cons (pv 8) (pa_cons (pv 6) pa_nil))))))) pa_nil))))
          (pss_one (ps_ret pe_bl))
          pss_nil)))
        (pss_cons (ps_asg (pe_ix ix_list (pv 3) (C8.pe_c c_law_take hr (by decide) (by rfl) (pa_cons (pv 5) (pa_cons pe_int pa_nil))) (fun _ _ => rfl)) (pg_tup rfl (pgs_cons (pg_name (i := 7) sc_law.nd rfl (Or.inr rfl)) (pgs_cons (pg_name (i := 8) sc_law.nd rfl (Or.inr rfl)) pgs_nil))))
        (pss_cons (ps_setLc (i := 9) (own := [("_law_place", 11)]) (by exact rfl) sc_law.nd rfl rfl (sw_true rfl rfl rfl (by decide +kernel)) (pi_range1 rfl T.range (pa_cons (pv 8) pa_nil)) (blkOk_by (own := [("_law_place", 11)]) (N := N_law) (sc := defScope s_law) (by decide +kernel)) (fun _ _ _ _ _ => (pg_name (i := 11) sc_law.nd rfl (Or.inl rfl))) (fun _ _ _ _ _ => pts_nil) (fun _ _ _ _ _ => (C8.pe_c c_law_worth hr (by decide) (by rfl) (pa_cons (pv 5) (pa_cons (pv 6) pa_nil)))))
        (pss_one (ps_if (PW.pt (pw_or (pt_not (pt_val (C8.pe_c c_law_refused hr (by decide) (by rfl) (pa_cons (pv 7) (pa_cons (pv 9) (pa_cons (pv 6) pa_nil)))))) (pw_or1 (pt_cmpR op_notBl (pe_kw cop_let_1_cap hr (by decide) (by rfl) (pa_cons (pv 7) pa_nil) (pk_cons (pv 6) pk_nil)) pe_bl (nomark _)))))
          (pss_one (ps_ret pe_bl))
          pss_nil)))))))))
        (pss_one (ps_ret pe_bl)))))), ?_⟩
    -- cells = folded(script, 4)
    refine ⟨_, rfl, a, 4, ns, rfl, hS, hlen, by decide, by decide, fun H1 cp ms s1 ncp hcp hml => ?_⟩
    -- fine, bad
    refine ⟨by show 2 ≤ sizeLine; decide, fun t1 n1 => ⟨by show 2 ≤ sizeLine; decide, fun t2 n2 => ⟨by show 2 ≤ sizeLine; decide, fun t3 n3 => ⟨by show 2 ≤ sizeLine; decide, fun t4 n4 => ⟨by show 4 ≤ sizeLine; decide, fun l1 m1 => ?_⟩⟩⟩⟩⟩
    refine ⟨by show 2 ≤ sizeLine; decide, fun t5 n5 => ⟨by show 2 ≤ sizeLine; decide, fun t6 n6 => ⟨by show 2 ≤ sizeLine; decide, fun t7 n7 => ⟨by show 3 ≤ sizeLine; decide, fun l2 m2 => ?_⟩⟩⟩⟩
    refine ⟨_, _, rfl, ?_⟩
    -- bad = bad + ..
    refine ⟨_, rfl, by show 2 ≤ sizeLine; decide, fun t8 n8 => ⟨by show 2 ≤ sizeLine; decide, fun t9 n9 => ⟨by show 2 ≤ sizeLine; decide, fun t10 n10 => ⟨by show 2 ≤ sizeLine; decide, fun t11 n11 => ⟨by show 4 ≤ sizeLine; decide, fun l3 m3 => ?_⟩⟩⟩⟩⟩
    refine ⟨l2, l3, _, _, rfl, rfl, same_upd m3 _ _ (same_upd n11 _ _ (same_upd n10 _ _ (same_upd n9 _ _ (same_upd n8 _ _ upd_same)))), upd_same, by show 7 ≤ sizeLine; decide, fun bl nbl => ?_⟩
    have z12 := same_upd (o := .lst ([.ref t5, .ref t6, .ref t7] ++ [.ref t8, .ref t9, .ref t10, .ref t11])) nbl
    have z11 := Same.trans (same_upd (o := .lst [.ref t8, .ref t9, .ref t10, .ref t11]) m3) z12
    have y11 := Same.trans (same_upd (o := .tup [.str "pick", .int 3]) n11) z11
    have y10 := Same.trans (same_upd (o := .tup [.str "under", .int 2]) n10) y11
    have y9 := Same.trans (same_upd (o := .tup [.str "same", .int 2]) n9) y10
    have y8 := Same.trans (same_upd (o := .tup [.str "rest", .int 2]) n8) y9
    have x8 := Same.trans (same_upd (o := .lst [.ref t5, .ref t6, .ref t7]) m2) y8
    have y7 := Same.trans (same_upd (o := .tup [.str "over", .int 2]) n7) x8
    have y6 := Same.trans (same_upd (o := .tup [.str "times", .int 2]) n6) y7
    have y5 := Same.trans (same_upd (o := .tup [.str "less", .int 2]) n5) y6
    have x5 := Same.trans (same_upd (o := .lst [.ref t1, .ref t2, .ref t3, .ref t4]) m1) y5
    have y4 := Same.trans (same_upd (o := .tup [.str "most", .int 2]) n4) x5
    have y3 := Same.trans (same_upd (o := .tup [.str "least", .int 2]) n3) y4
    have y2 := Same.trans (same_upd (o := .tup [.str "plus", .int 2]) n2) y3
    have y1 := Same.trans (same_upd (o := .tup [.str "copy", .int 1]) n1) y2
    have hfine : OpsAt _ l1 4 true := ⟨[t1, t2, t3, t4], y5 _ _ upd_same, rfl, fun t ht => by
      simp only [List.mem_cons, List.not_mem_nil, or_false] at ht
      rcases ht with rfl | rfl | rfl | rfl
      · exact ⟨.copy, rfl, y2 _ _ upd_same⟩
      · exact ⟨.plus, rfl, y3 _ _ upd_same⟩
      · exact ⟨.least, rfl, y4 _ _ upd_same⟩
      · exact ⟨.most, rfl, x5 _ _ upd_same⟩⟩
    have hbad : OpsAt _ bl 7 false := ⟨[t5, t6, t7, t8, t9, t10, t11], upd_same, rfl, fun t ht => by
      simp only [List.mem_cons, List.not_mem_nil, or_false] at ht
      rcases ht with rfl | rfl | rfl | rfl | rfl | rfl | rfl
      · exact ⟨.less, rfl, y6 _ _ upd_same⟩
      · exact ⟨.times, rfl, y7 _ _ upd_same⟩
      · exact ⟨.over, rfl, x8 _ _ upd_same⟩
      · exact ⟨.rest, rfl, y9 _ _ upd_same⟩
      · exact ⟨.same, rfl, y10 _ _ upd_same⟩
      · exact ⟨.under, rfl, y11 _ _ upd_same⟩
      · exact ⟨.pick, rfl, z11 _ _ upd_same⟩⟩
    have hcp0 := y1 _ _ hcp
    obtain ⟨H0, eH0, hfine, hbad, hcq⟩ : ∃ H0 : Hp, H0 = _ ∧ OpsAt H0 l1 4 true ∧ OpsAt H0 bl 7 false ∧ H0 cp = some (.lst (ms.map V.int)) := ⟨_, rfl, hfine, hbad, hcp0⟩
    obtain ⟨ts, hol, hts, htt⟩ := hfine
    obtain ⟨us, hob, hus, hut⟩ := hbad
    have hlm : ((ms.map V.int).length : Int) ≤ 4 := by
      rw [List.length_map]
      omega
    -- for k in range(1 + len(cells))
    refine ⟨_, rfl, cp, _, rfl, .inl (SqL.of hcp0), _, _, rfl, rfl, _, rfl, by omega, by omega, ?_⟩
    refine for_range (lo := 0) (fun i σ H2 => ∃ y4 y5 y6 y7 y8 y9, σ = [some (.ref a), some (.ref cp), some (.ref l1), some (.ref bl), y4, y5, y6, y7, y8, y9, none, none] ∧ Same H0 H2) ⟨none, none, none, none, none, none, rfl, by rw [eH0]; exact Same.refl _⟩ ?_ ?_
    · rintro i σ H2 hi ⟨y4, y5, y6, y7, y8, y9, rfl, s2⟩
      rw [Int.zero_add]
      have hi' : i ≤ 63 := by omega
      -- box = dip(cells, k)
      refine ⟨_, rfl, _, rfl, cp, i, ms, rfl, SqL.of (s2 _ _ hcq), hi', fun bx b nbx hB => ?_⟩
      have n0 : H0 bx = none := s2.free nbx
      have s3 : Same H0 (upd H2 bx (.lst b)) := Same.new s2 nbx
      -- for top in range(1, 10)
      refine ⟨1, 10, rfl, ⟨by decide, by decide, by decide, by decide⟩, for_range (lo := 1) (n := 9) (fun j σ H3 => ∃ y6 y7 y8 y9 b', σ = [some (.ref a), some (.ref cp), some (.ref l1), some (.ref bl), some (.int i), some (.ref bx), y6, y7, y8, y9, none, none] ∧ Same H0 H3 ∧ H3 bx = some (.lst b') ∧ BoxL (400 * j) b')
        ⟨y6, y7, y8, y9, b, rfl, s3, upd_same, hB⟩ ?_ ?_⟩
      · rintro j σ H3 hj ⟨y6, y7, y8, y9, b3, rfl, s4, hb3, hB3⟩
        obtain ⟨c, ec⟩ : ∃ c : Int, c = 1 + (j : Int) := ⟨_, rfl⟩
        have c1 : 1 ≤ c := by omega
        have c9 : c ≤ 9 := by omega
        rw [← ec]
        -- for word, many in fine
        refine ⟨_, rfl, l1, rfl, ⟨_, SqL.of (s4 _ _ hol)⟩, for_list (K := K) (a := l1) (xs := ts.map V.ref) (fun m σ H4 => ∃ y7 y8 y9 b', σ = [some (.ref a), some (.ref cp), some (.ref l1), some (.ref bl), some (.int i), some (.ref bx), some (.int c), y7, y8, y9, none, none] ∧ Same H0 H4 ∧ H4 bx = some (.lst b') ∧ BoxL (400 * j + 80 * m) b' ∧ m ≤ 4)
          ⟨y7, y8, y9, b3, rfl, s4, hb3, hB3, by omega⟩ (fun m σ H4 _ ⟨_, _, _, _, _, s5, _⟩ => SqL.of (s5 _ _ hol)) ?_ ?_⟩
        · rintro m x σ H4 hx ⟨y7, y8, y9, b4, rfl, s5, hb4, hB4, hm⟩
          have hm4 : m < 4 := by
            have := (List.getElem?_eq_some_iff.mp hx).1
            rw [List.length_map] at this
            omega
          obtain ⟨t, ht, rfl⟩ : ∃ t, t ∈ ts ∧ x = .ref t := by
            rw [List.getElem?_map] at hx
            cases e : ts[m]? with
            | none =>
              rw [e] at hx
              cases hx
            | some t =>
              rw [e] at hx
              exact ⟨t, List.mem_of_getElem? e, (Option.some.inj hx).symm⟩
          obtain ⟨o, hf, ho⟩ := htt t ht
          refine ⟨t, _, rfl, SqT.of (s5 _ _ ho), rfl, _, _, rfl, _, _, rfl, rfl, ?_⟩
          -- all([let_right(..) for turn in range(4)])
          refine ⟨4, rfl, by decide, by decide, fun D nD => ?_⟩
          have nbD : bx ≠ D := ne_of_none hb4 nD
          have nD0 : H0 D = none := s5.free nD
          refine lc_range (lo := 0) (n := 4) (fun i6 H6 => ∃ b6, Same H0 H6 ∧ H6 D = some (.lst ((List.replicate i6 true).map V.bl)) ∧ H6 bx = some (.lst b6) ∧ BoxL (400 * j + 80 * m + 20 * i6) b6)
            ⟨b4, Same.new s5 nD, upd_same, by rw [upd_ne nbD]; exact hb4, hB4⟩ ?_ ?_
          · rintro i6 H6 hi6 ⟨b6, s6, hD, hb6, hB6⟩
            refine ⟨rfl, yesT ?_⟩
            refine ⟨_, rfl, _, rfl, _, rfl, _, rfl, o, bx, c, _, b6, rfl, hf, hb6, hB6, by omega, c1, c9, fun H7 b7 hbut hb7 hB7 => ?_⟩
            refine ⟨_, hbut D _ nbD.symm hD, by rw [List.length_map, List.length_replicate]; exact small1000 (by omega), b7, Same.at_ (Same.but s6 n0 hbut) nD0, ?_, ?_, hB7.mono (by omega)⟩
            · rw [upd_same, List.replicate_succ', List.map_append]
              rfl
            · rw [upd_ne nbD]
              exact hb7
          · rintro H6 ⟨b6, s6, hD, hb6, hB6⟩
            refine ⟨D, _, rfl, SqL.of hD, _, rfl, iteF ?_⟩
            exact ⟨_, _, y9, b6, rfl, s6, hb6, hB6.mono (by omega), by omega⟩
        · rintro σ H4 ⟨y7, y8, y9, b4, rfl, s5, hb4, hB4, hm⟩
          -- word, many = bad[take(box, 7)]
          refine ⟨_, rfl, _, rfl, bx, 7, _, b4, rfl, hb4, hB4, by rw [List.length_map]; omega, by decide, by decide, fun r b5 r0 r1 hB5 => ?_⟩
          obtain ⟨k, rfl⟩ := Int.eq_ofNat_of_zero_le r0
          have hk : k < us.length := by omega
          have gk : (us.map V.ref)[k]? = some (.ref us[k]) := by
            rw [List.getElem?_map, List.getElem?_eq_getElem hk]
            rfl
          obtain ⟨o, hf, ho⟩ := hut _ (List.getElem_mem hk)
          have hon := op_n o
          have s6 : Same H0 (upd H4 bx (.lst b5)) := Same.at_ s5 n0
          refine ⟨bl, _, _, .ref us[k], rfl, rfl, SqL.of (s6 _ _ hob), atI_nat (j := k) gk, us[k], _, rfl, SqT.of (s6 _ _ ho), rfl, _, _, rfl, _, _, rfl, rfl, ?_⟩
          rw [List.length_map] at hB5
          -- some
          refine ⟨_, rfl, ((o.n : Nat) : Int), rfl, by omega, by omega, fun D nD => ?_⟩
          have nbD : bx ≠ D := fun z => by
            rw [← z, upd_same] at nD
            cases nD
          have nD0 : H0 D = none := s6.free nD
          refine lc_range (lo := 0) (n := o.n) (fun i6 H6 => ∃ b6, ∃ vs : List Int, Same H0 H6 ∧ H6 D = some (.lst (vs.map V.int)) ∧ vs.length = i6 ∧ Worths vs ∧ H6 bx = some (.lst b6) ∧ BoxL (400 * j + 350 + 3 * i6) b6)
            ⟨b5, [], Same.new s6 nD, upd_same, rfl, (fun _ h => nomatch h), by rw [upd_ne nbD]; exact upd_same, hB5.mono (by omega)⟩ ?_ ?_
          · rintro i6 H6 hi6 ⟨b6, vs, s7, hD, hv, hw, hb6, hB6⟩
            refine ⟨rfl, yesT ?_⟩
            refine ⟨_, rfl, _, rfl, bx, c, _, b6, rfl, hb6, hB6, by omega, c1, c9, fun H7 v b7 hbut hb7 hB7 v0 v1 => ?_⟩
            refine ⟨_, hbut D _ nbD.symm hD, by rw [List.length_map]; exact small1000 (by omega), b7, vs ++ [v], Same.at_ (Same.but s7 n0 hbut) nD0, ?_, by rw [List.length_append, hv]; rfl, ?_, ?_, hB7.mono (by omega)⟩
            · rw [upd_same, List.map_append]
              rfl
            · intro n hn
              rcases List.mem_append.mp hn with h | h
              · exact hw n h
              · rw [List.mem_singleton.mp h]
                exact ⟨v0, v1⟩
            · rw [upd_ne nbD]
              exact hb7
          · rintro H6 ⟨b6, vs, s7, hD, hv, hw, hb6, hB6⟩
            -- refused, op_let
            refine ⟨_, rfl, _, rfl, _, rfl, o, D, vs, c, rfl, hf, hD, hv, hw, c1, c9, fun H8 s8 => ⟨_, rfl, iteF ?_⟩⟩
            refine ⟨_, rfl, _, rfl, rfl, rfl, o, c, rfl, c1, ?_⟩
            rw [hf]
            refine ⟨false, false, rfl, rfl, _, rfl, ifF rfl ?_⟩
            exact ⟨_, _, _, _, b6, rfl, s7.trans s8, s8 _ _ hb6, hB6.mono (by omega)⟩
      · rintro σ H3 ⟨y6, y7, y8, y9, b3, rfl, s4, hb3, hB3⟩
        exact ⟨_, _, y6, y7, y8, y9, rfl, s4⟩
    · rintro σ H2 ⟨y4, y5, y6, y7, y8, y9, rfl, s2⟩
      exact q H2
end
/-! ### from what the top has written -/
section
variable {w : World} {K : PySem.W.Frag} {h : Heap} {mg : Str → Option Value}
theorem fun_dd {x : Str} {st : Stmt} {ps : List Str} {f : Addr} {oc : Value} {od an : Option Addr} {osl : Array (Option Value)} {kV doc pm cdv ct : Value} (X : K.In h) (G : h.Ns mainGlobals mg) (a : PySem.W.nsIn K mainGlobals x = some (some (.ref f)))
    (l : K.lookup f = some ⟨oc, od, .func (PySem.W.fnOf x x (defArgs st) (defBody st) (defScope st) .none kV doc pm an cdv ct), osl⟩) (c : PySem.W.codeIn K cdv x = true) (k : PySem.W.keepIn K (.ref f) = true)
    (hb : ∀ (kV doc pm : Value) (an : Option Addr) (cdv ct : Value) (us : List Value), us.length = ps.length → bindArgs (PySem.W.fnOf x x (defArgs st) (defBody st) (defScope st) .none kV doc pm an cdv ct) ⟨us, []⟩ = pure (ps.zip us)) : Dd K mg x st ps :=
  ⟨f, _, fun_mk (st := st) l c k, PySem.W.mg_of X G a, (fun_mk (st := st) l c k).binds hb⟩
theorem fun_ddk {x kn : Str} {kv : V} {ku : Value} {st : Stmt} {f kd : Addr} {oc : Value} {od an : Option Addr} {osl : Array (Option Value)} {doc pm cdv ct : Value} (X : K.In h) (G : h.Ns mainGlobals mg) (a : PySem.W.nsIn K mainGlobals x = some (some (.ref f)))
    (l : K.lookup f = some ⟨oc, od, .func (PySem.W.fnOf x x (defArgs st) (defBody st) (defScope st) .none (.ref kd) doc pm an cdv ct), osl⟩) (c : PySem.W.codeIn K cdv x = true) (k : PySem.W.keepIn K (.ref f) = true)
    (d : PySem.W.nsIn K kd kn = some (some ku)) (r : RelV kv ku) : DdK K mg x st [(kn, kv)] :=
  ⟨f, _, ⟨⟨_, _, _, _, _, _, _, _, _, _, rfl, l, c, .inl ⟨rfl, rfl⟩, .inr ⟨kd, rfl, fun q hq => by
    rw [List.mem_singleton.mp hq]
    exact ⟨_, d, r⟩⟩⟩, k⟩, PySem.W.mg_of X G a⟩
structure Act0 (K : PySem.W.Frag) (RD : Addr) (o : Op) (x : Str) (st : Stmt) (ps : List Str) : Prop where
  ex : ∃ (f : Addr) (fd : FuncData), L2.Fun K x x st f fd ∧ Binds K fd ps [] ∧ PySem.W.nsIn K RD o.w = some (some (.ref f))
theorem fun_act {RD : Addr} {o : Op} {x : Str} {st : Stmt} {ps : List Str} {f : Addr} {oc : Value} {od an : Option Addr} {osl : Array (Option Value)} {kV doc pm cdv ct : Value} (a : PySem.W.nsIn K RD o.w = some (some (.ref f)))
    (l : K.lookup f = some ⟨oc, od, .func (PySem.W.fnOf x x (defArgs st) (defBody st) (defScope st) .none kV doc pm an cdv ct), osl⟩) (c : PySem.W.codeIn K cdv x = true) (k : PySem.W.keepIn K (.ref f) = true)
    (hb : ∀ (kV doc pm : Value) (an : Option Addr) (cdv ct : Value) (us : List Value), us.length = ps.length → bindArgs (PySem.W.fnOf x x (defArgs st) (defBody st) (defScope st) .none kV doc pm an cdv ct) ⟨us, []⟩ = pure (ps.zip us)) : Act0 K RD o x st ps :=
  ⟨f, _, fun_mk (st := st) l c k, (fun_mk (st := st) l c k).binds hb, a⟩
theorem Act0.at_ {RD : Addr} {o : Op} {x : Str} {st : Stmt} {ps : List Str} {es : Array DictEntry} {n : Nat} (A : Act0 K RD o x st ps) (lR : K.lookup RD = some ⟨.type "dict", none, .dict es n, #[]⟩) (kl : PySem.W.KeysLit w.params es.toList) : ActAt K w RD o x st ps := by
  obtain ⟨f, fd, F, b, a⟩ := A.ex
  exact ⟨f, fd, F, b, es, n, _, lR, kl, a, rfl⟩
end
section
variable {w : World} {K : PySem.W.Frag} {h : Heap} {mg : Str → Option Value}
theorem fun_oxd {x qual : Str} {st : Stmt} {ps : List Str} {B newId : String} {C f N : Addr} {oc : Value} {od an : Option Addr} {osl : Array (Option Value)} {kV doc pm cdv ct : Value} {nm q : Str} {bs bm : List Value} {sn : List Str} {sub : List Value} {ab : Bool} {col : Option Bool} {dd : Option Addr} {k0 k1 k2 k3 k5 : Option Value}
    (X : K.In h) (G : h.Ns mainGlobals mg) (a : PySem.W.nsIn K mainGlobals x = some (some (.ref C))) (lC : K.lookup C = some (excClassObj nm q C N bs bm true sn sub ab col dd k0 k1 k2 k3 k5 newId)) (Nw : PySem.Oxb.NewOk newId bm) (FB : PySem.Oxb.InitOk B bm) (M : PySem.Oxb.MroOk (.ref C :: bm))
    (sa : PySem.W.findIn K (.ref C) "__setattr__" = some (some (.builtin "object.__setattr__"))) (exC : PySem.W.subIn K (.ref C) (.type "BaseException") = some true) (tyC : PySem.W.typeIn K (.ref C) = some (.type "type")) (kC : PySem.W.keepIn K (.ref C) = true)
    (iC : PySem.W.findIn K (.ref C) "__init__" = some (some (.ref f))) (tI : PySem.W.typeIn K (.ref f) = some (.type "function"))
    (l : K.lookup f = some ⟨oc, od, .func (PySem.W.fnOf "__init__" qual (defArgs st) (defBody st) (defScope st) .none kV doc pm an cdv ct), osl⟩) (c : PySem.W.codeIn K cdv qual = true) (k : PySem.W.keepIn K (.ref f) = true)
    (hb : ∀ (kV doc pm : Value) (an : Option Addr) (cdv ct : Value) (us : List Value), us.length = ps.length → bindArgs (PySem.W.fnOf "__init__" qual (defArgs st) (defBody st) (defScope st) .none kV doc pm an cdv ct) ⟨us, []⟩ = pure (ps.zip us)) : OxD K mg C B x qual st ps where
  ex := ⟨f, _, fun_mk (st := st) l c k, (fun_mk (st := st) l c k).binds hb, iC, tI⟩
  ox := ⟨⟨nm, q, N, bs, bm, sn, sub, ab, col, dd, k0, k1, k2, k3, k5, newId, lC, Nw, FB, M⟩, sa, exC, tyC, kC⟩
  mg := PySem.W.mg_of X G a
theorem cls_some {D : Addr} (hd : PySem.W.hasDictIn K D = true) : (PySem.W.clsIn K D).isSome = true := by
  obtain ⟨cd, e1, _⟩ := PySem.W.any_some hd
  rw [e1]
  rfl
theorem kit_cls {t : Value} {D : Addr} {b : Bool} (hd : PySem.W.hasDictIn K D = true) (ht : PySem.W.typeIn K (.ref D) = some (.type "type")) (hs : PySem.W.subIn K t (.ref D) = some b) : PySem.W.kitCls K t (.ref D) = some b := by
  show (if ((PySem.W.clsIn K D).isSome && PySem.W.typeIn K (.ref D) == some (.type "type")) = true then PySem.W.subIn K t (.ref D) else none) = some b
  rw [cls_some hd, ht, hs]
  rfl
theorem kit_other {C D : Addr} {b : Bool} (n : (Value.ref C == Value.ref D) = false) (hd : PySem.W.hasDictIn K D = true) (ht : PySem.W.typeIn K (.ref D) = some (.type "type")) (hs : PySem.W.subIn K (.ref C) (.ref D) = some b) : PySem.W.kitOne K (.ref C) (.ref D) = some b := by
  unfold PySem.W.kitOne
  rw [n]
  exact kit_cls hd ht hs
theorem kit_base {C : Addr} {T : String} {b : Bool} (m : PySem.W.kitMeta T = true) (hs : PySem.W.subIn K (.ref C) (.type T) = some b) : PySem.W.kitOne K (.ref C) (.type T) = some b := by
  have n : (Value.ref C == Value.type T) = false := rfl
  unfold PySem.W.kitOne
  rw [n]
  show (if PySem.W.kitMeta T = true then PySem.W.subIn K (.ref C) (.type T) else none) = some b
  rw [if_pos m, hs]
theorem exm_own {t : Value} {D : Addr} {b : Bool} (hB : PySem.W.subIn K (.ref D) (.type "BaseException") = some true) (hd : PySem.W.hasDictIn K D = true) (ht : PySem.W.typeIn K (.ref D) = some (.type "type")) (hs : PySem.W.subIn K t (.ref D) = some b) : PySem.W.exmOne K t (.ref D) = some b := by
  unfold PySem.W.exmOne
  rw [hB]
  exact kit_cls hd ht hs
end
theorem all_mk {l : PySem.W.OpenLaw} {w : World} {K : PySem.W.Frag} {h : Heap} {mg : Str → Option Value} {fa RD LA C BG BR NO f4 : Addr} {es : Array DictEntry} {n : Nat} (X : K.In h) (G : h.Ns mainGlobals mg) (hfa : mg "law" = some (.ref fa))
    {tB : Tok} (aR : PySem.W.nsIn K mainGlobals "RECKONINGS" = some (some (.ref RD))) (lR : K.lookup RD = some ⟨.type "dict", none, .dict es n, #[]⟩) (kl : PySem.W.KeysLit w.params es.toList) (aB : PySem.W.nsIn K mainGlobals "BOUND" = some (some (.int 1000000 tB)))
    (aLT : PySem.W.nsIn K mainGlobals "LET" = some (some (.ref LA))) {dL : Option Addr} {itL : Array Value} {nL : Nat} {slL : Array (Option Value)} (lLT : K.lookup LA = some ⟨.type "tuple", dL, .seq itL nL, slL⟩) (vL : Vals [.str "copy", .str "plus", .str "least", .str "most"] itL.toList)
    (N : OxD K mg C "ValueError" "NotLet" "NotLet.__init__" s_NotLet N_NotLet) (bV : PySem.W.findCls K (.type "ValueError") (.type "type") "__init__" = some (.val (.builtin "ValueError.__init__")))
    (aBG : PySem.W.nsIn K mainGlobals "BadGrammar" = some (some (.ref BG))) (aBR : PySem.W.nsIn K mainGlobals "BadRow" = some (some (.ref BR))) (aNO : PySem.W.nsIn K mainGlobals "NoOp" = some (some (.ref NO)))
    (e1 : PySem.W.exmOne K (.ref C) (.ref C) = some true) (e2 : XvC K C) (e3 : PySem.W.findIn K (.ref C) "op" = some none) (e4 : PySem.W.findIn K (.ref C) "under" = some none) (e5 : PySem.W.kitAny K (.ref C) [.ref BG, .ref BR, .ref NO] = some false) (e6 : PySem.W.kitOne K (.ref C) (.type "ValueError") = some true)
    (z1 : PySem.W.nsIn K mainGlobals "len" = some none) (z2 : PySem.W.nsIn K mainGlobals "abs" = some none) (z3 : PySem.W.nsIn K mainGlobals "int" = some none) (z4 : PySem.W.nsIn K mainGlobals "list" = some none)
    (z5 : PySem.W.nsIn K mainGlobals "enumerate" = some none) (z6 : PySem.W.nsIn K mainGlobals "range" = some none) (z7 : PySem.W.nsIn K mainGlobals "min" = some none) (z8 : PySem.W.nsIn K mainGlobals "max" = some none)
    (z9 : PySem.W.nsIn K mainGlobals "isinstance" = some none) (z10 : PySem.W.nsIn K mainGlobals "bool" = some none) (z11 : PySem.W.nsIn K mainGlobals "all" = some none) (z12 : PySem.W.nsIn K mainGlobals "sum" = some none) (z13 : PySem.W.nsIn K mainGlobals "ValueError" = some none) (z14 : PySem.W.nsIn K mainGlobals "tuple" = some none)
    (A1 : Act0 K RD .copy "copy_of" s_copy_of P_copy_of) (A2 : Act0 K RD .plus "plus_of" s_plus_of P_plus_of) (A3 : Act0 K RD .less "less_of" s_less_of P_less_of) (A4 : Act0 K RD .times "times_of" s_times_of P_times_of)
    (A5 : Act0 K RD .over "over_of" s_over_of P_over_of) (A6 : Act0 K RD .rest "rest_of_two" s_rest_of_two P_rest_of_two) (A7 : Act0 K RD .least "least_of" s_least_of P_least_of) (A8 : Act0 K RD .most "most_of" s_most_of P_most_of)
    (A9 : Act0 K RD .same "same_of" s_same_of P_same_of) (A10 : Act0 K RD .under "under_of" s_under_of P_under_of) (A11 : Act0 K RD .pick "pick_of" s_pick_of P_pick_of)
    (DR : DdK K mg "reckoned" s_reckoned [("cap", .int 0)]) (DL : DdK K mg "op_let" s_op_let [("cap", .int 0)]) (D0 : Dd K mg "own_copy" s_own_copy P_own_copy) (D1 : Dd K mg "_law_take" s__law_take P__law_take) (D2 : Dd K mg "_law_dip" s__law_dip P__law_dip) (D3 : Dd K mg "_law_folded" s__law_folded P__law_folded) (D4 : Dd K mg "_law_worth" s__law_worth P__law_worth)
    (D6 : Dd K mg "_law_due" s__law_due P__law_due) (D7 : Dd K mg "_law_let_right" s__law_let_right P__law_let_right) (D8 : Dd K mg "_law_refused" s__law_refused P__law_refused)
    {od4 an4 : Option Addr} {sl4 : Array (Option Value)} {oc4 kV4 dc4 pm4 cd4 ct4 : Value}
    (a4 : PySem.W.nsIn K mainGlobals "law" = some (some (.ref f4))) (l4 : K.lookup f4 = some ⟨oc4, od4, .func (PySem.W.fnOf "law" "law" (defArgs s_law) (defBody s_law) (defScope s_law) .none kV4 dc4 pm4 an4 cd4 ct4), sl4⟩) (c4 : PySem.W.codeIn K cd4 "law" = true) (k4 : PySem.W.keepIn K (.ref f4) = true) :
    ∃ fd : FuncData, (∀ (s : Shared) (v : Value), BindsTo s fd ⟨[v], []⟩ [("_law_script", v)]) ∧ ∀ base : Heap, K.In base → base.Ns mainGlobals mg → FnOk l.prog w K mg base CX0 6 fa fd ["_law_script"] (spLaw K) := by
  have e := hfa.symm.trans (PySem.W.mg_of X G a4)
  cases e
  have F4 := fun_mk (st := s_law) l4 c4 k4
  have m1 := PySem.W.mg_none_of X G z1
  have m2 := PySem.W.mg_none_of X G z2
  have m3 := PySem.W.mg_none_of X G z3
  have m4 := PySem.W.mg_none_of X G z4
  have m5 := PySem.W.mg_none_of X G z5
  have m6 := PySem.W.mg_none_of X G z6
  have m7 := PySem.W.mg_none_of X G z7
  have m8 := PySem.W.mg_none_of X G z8
  have m9 := PySem.W.mg_none_of X G z9
  have m10 := PySem.W.mg_none_of X G z10
  have m11 := PySem.W.mg_none_of X G z11
  have m12 := PySem.W.mg_none_of X G z12
  have m13 := PySem.W.mg_none_of X G z13
  have m14 := PySem.W.mg_none_of X G z14
  have B : Bt mg := ⟨m1, m2, m3, m4, m5, m6⟩
  have TA : At mg := ⟨⟨_, PySem.W.mg_of X G aB, ⟨_, rfl⟩⟩, m7, m8⟩
  have TR : Rt mg RD LA := ⟨PySem.W.mg_of X G aR, PySem.W.mg_of X G aLT, m7⟩
  have TL : Lt mg := ⟨m9, m10, m7, m8, m12, m4, m11, m6, m1, m13⟩
  have TO : Ot mg := ⟨m9, m4, m14⟩
  have NN : Nk K mg C BG BR NO := ⟨N.mg, PySem.W.mg_of X G aBG, PySem.W.mg_of X G aBR, PySem.W.mg_of X G aNO, e1, e2, e3, e4, e5, e6⟩
  have bI : BInit K "ValueError" := ⟨by decide +kernel, rfl, by decide +kernel, bV, rfl, by decide +kernel, by decide +kernel⟩
  have hL : ∀ H, SqT K H LA [.str "copy", .str "plus", .str "least", .str "most"] := fun H => .inr ⟨_, itL, nL, lLT, rfl, rfl, by
    have z : itL.toList.length = 4 := by first | exact vL.length | exact vL.length.symm
    have z2 : itL.size = 4 := by
      rw [← Array.length_toList]
      exact z
    rw [z2]
    decide, vL⟩
  refine ⟨PySem.W.fnOf "law" "law" (defArgs s_law) (defBody s_law) (defScope s_law) .none kV4 dc4 pm4 an4 cd4 ct4, fun s v => .of_eq rfl, fun base _ _ => ?_⟩
  have As : ∀ o, Has l.prog w K mg base RD o := fun o => by
    cases o with
    | copy => exact ok_copy TA (A1.at_ lR kl)
    | plus => exact ok_plus TA (A2.at_ lR kl)
    | less => exact ok_less TA (A3.at_ lR kl)
    | times => exact ok_times TA (A4.at_ lR kl)
    | over => exact ok_over TA (A5.at_ lR kl)
    | rest => exact ok_rest TA (A6.at_ lR kl)
    | least => exact ok_least TA (A7.at_ lR kl)
    | most => exact ok_most TA (A8.at_ lR kl)
    | same => exact ok_same TA (A9.at_ lR kl)
    | under => exact ok_under TA (A10.at_ lR kl)
    | pick => exact ok_pick TA (A11.at_ lR kl)
  have co := ok_op_let (P := l.prog) (w := w) (base := base) TR hL DL
  have cw := ok_own (P := l.prog) (w := w) (base := base) TO D0
  have R : Reck l.prog w K mg base C := ok_reckoned TR As co N (fun f fd F => ok_notlet cw F N.ox bI m13 e3 e4) DR
  have ct := ok_take (P := l.prog) (w := w) (base := base) D1
  exact ok_law TL (ok_folded B D3) (ok_dip B D2) ct (ok_worth ct D4) (ok_let TL R ct (ok_worth ct D4) (ok_due TL D6) D7) (ok_refused TL R NN D8) co F4
end Thr
open PySem PySem.W PyProof.Rows
set_option maxRecDepth 100000 in
set_option maxHeartbeats 0 in
theorem PySem.Challenge.cw_threereckons_k03_reckoned_under_a_cap_holds : PySem.Challenge.rw_threereckons_k03_reckoned_under_a_cap.Holds := by
  w_on; o_law; k_head; (case hw => w_witness2)
  k_fill
  refine L2.walk_of (l := PySem.Challenge.rw_threereckons_k03_reckoned_under_a_cap) (n := 63) (k := 6) (x := "_law_script") (CX := fun _ => L2.CX0) (sp := fun w => Thr.spLaw _) rfl (by decide) rfl ⟨rfl, by decide, by decide⟩ (fun w h Y => PySem.W.kIn_of Y) ?F (fun _ _ a ns hl _ hS => ⟨a, ns, rfl, hS, hl, fun _ => rfl⟩) (fun _ _ _ _ _ h => h)
  case F =>
    intro w mg fa h KX G hmg
    refine' Thr.all_mk KX G hmg ?aR ?lR ?kl ?aB ?aLT ?lLT ?vL
      (Thr.fun_oxd (newId := "ValueError.__new__") (bm := [.type "ValueError", .type "Exception", .type "BaseException", .type "object"]) KX G ?o1 ?o2 Thr.new_VE Thr.init_VE (Thr.mro_VE _) ?o3 ?o4 ?o5 ?o6 ?o7 ?o8 ?o9 ?o10 ?o11 ?o12) ?bV ?aBG ?aBR ?aNO (Thr.exm_own ?e1a ?e1b ?e1c ?e1d) ⟨?v1, ?v2, ?v3, ?v4, ?v5, ?v6, ?v7, ?v8⟩ ?e3 ?e4 (L2.kitAny_cons (b := false) (Thr.kit_other ?q1 ?q2 ?q3 ?q4) (fun _ => L2.kitAny_cons (b := false) (Thr.kit_other ?q5 ?q6 ?q7 ?q8) (fun _ => L2.kitAny_cons (b := false) (Thr.kit_other ?q9 ?q10 ?q11 ?q12) (fun _ => L2.kitAny_nil) (fun e => nomatch e)) (fun e => nomatch e)) (fun e => nomatch e)) (Thr.kit_base ?e6a ?e6b)
      ?z1 ?z2 ?z3 ?z4 ?z5 ?z6 ?z7 ?z8 ?z9 ?z10 ?z11 ?z12 ?z13 ?z14 (Thr.fun_act ?a1 ?l1 ?c1 ?k1 ?b1) (Thr.fun_act ?a2 ?l2 ?c2 ?k2 ?b2) (Thr.fun_act ?a3 ?l3 ?c3 ?k3 ?b3) (Thr.fun_act ?a4 ?l4 ?c4 ?k4 ?b4)
      (Thr.fun_act ?a5 ?l5 ?c5 ?k5 ?b5) (Thr.fun_act ?a6 ?l6 ?c6 ?k6 ?b6) (Thr.fun_act ?a7 ?l7 ?c7 ?k7 ?b7) (Thr.fun_act ?a8 ?l8 ?c8 ?k8 ?b8) (Thr.fun_act ?a9 ?l9 ?c9 ?k9 ?b9) (Thr.fun_act ?a10 ?l10 ?c10 ?k10 ?b10) (Thr.fun_act ?a11 ?l11 ?c11 ?k11 ?b11)
      (Thr.fun_ddk KX G ?ar ?lr ?cr ?kr ?dr ?rr) (Thr.fun_ddk KX G ?as ?ls ?cs ?ks ?ds ?rs) (Thr.fun_dd KX G ?x0 ?y0 ?u0 ?v0 ?w0) (Thr.fun_dd KX G ?x1 ?y1 ?u1 ?vv1 ?w1) (Thr.fun_dd KX G ?x2 ?y2 ?u2 ?vv2 ?w2) (Thr.fun_dd KX G ?x3 ?y3 ?u3 ?vv3 ?w3) (Thr.fun_dd KX G ?x4 ?y4 ?u4 ?vv4 ?w4)
      (Thr.fun_dd KX G ?x6 ?y6 ?u6 ?vv6 ?w6) (Thr.fun_dd KX G ?x7 ?y7 ?u7 ?vv7 ?w7) (Thr.fun_dd KX G ?x8 ?y8 ?u8 ?vv8 ?w8) ?aL ?lL ?cL ?kL
    (case aR => k_is); (case lR => k_is)
    (case kl => (repeat (first | exact trivial | refine ⟨⟨_, _, rfl, rfl⟩, ?_⟩)))
    (case aB => k_is); (case aLT => k_is); (case lLT => k_is)
    (case vL => exact .cons ⟨_, rfl⟩ (.cons ⟨_, rfl⟩ (.cons ⟨_, rfl⟩ (.cons ⟨_, rfl⟩ .nil))))
    (case o1 => k_is); (case o2 => k_is); (case o3 => k_is); (case o4 => k_is); (case o5 => k_is); (case o6 => k_is); (case o7 => k_is); (case o8 => k_is); (case o9 => k_is); (case o10 => k_is); (case o11 => k_is)
    (case o12 => exact fun _ _ _ _ _ _ us hl => match us, hl with | [_, _, _], _ => rfl)
    (case bV => k_is); (case aBG => k_is); (case aBR => k_is); (case aNO => k_is); (case e1a => k_is); (case e1b => k_is); (case e1c => k_is); (case e1d => k_is); (case v1 => k_is); (case v2 => k_is); (case v3 => k_is); (case v4 => k_is); (case v5 => k_is); (case v6 => k_is); (case v7 => k_is); (case v8 => k_is); (case e3 => k_is); (case e4 => k_is); (case q1 => rfl); (case q2 => k_is); (case q3 => k_is); (case q4 => k_is); (case q5 => rfl); (case q6 => k_is); (case q7 => k_is); (case q8 => k_is); (case q9 => rfl); (case q10 => k_is); (case q11 => k_is); (case q12 => k_is); (case e6a => decide +kernel); (case e6b => k_is)
    (case z1 => k_is); (case z2 => k_is); (case z3 => k_is); (case z4 => k_is); (case z5 => k_is); (case z6 => k_is); (case z7 => k_is); (case z8 => k_is); (case z9 => k_is); (case z10 => k_is); (case z11 => k_is); (case z12 => k_is); (case z13 => k_is); (case z14 => k_is)
    (case a1 => k_is); (case l1 => k_is); (case c1 => k_is); (case k1 => k_is); (case b1 => exact fun _ _ _ _ _ _ us hl => match us, hl with | [_], _ => rfl)
    (case a2 => k_is); (case l2 => k_is); (case c2 => k_is); (case k2 => k_is); (case b2 => exact fun _ _ _ _ _ _ us hl => match us, hl with | [_, _], _ => rfl)
    (case a3 => k_is); (case l3 => k_is); (case c3 => k_is); (case k3 => k_is); (case b3 => exact fun _ _ _ _ _ _ us hl => match us, hl with | [_, _], _ => rfl)
    (case a4 => k_is); (case l4 => k_is); (case c4 => k_is); (case k4 => k_is); (case b4 => exact fun _ _ _ _ _ _ us hl => match us, hl with | [_, _], _ => rfl)
    (case a5 => k_is); (case l5 => k_is); (case c5 => k_is); (case k5 => k_is); (case b5 => exact fun _ _ _ _ _ _ us hl => match us, hl with | [_, _], _ => rfl)
    (case a6 => k_is); (case l6 => k_is); (case c6 => k_is); (case k6 => k_is); (case b6 => exact fun _ _ _ _ _ _ us hl => match us, hl with | [_, _], _ => rfl)
    (case a7 => k_is); (case l7 => k_is); (case c7 => k_is); (case k7 => k_is); (case b7 => exact fun _ _ _ _ _ _ us hl => match us, hl with | [_, _], _ => rfl)
    (case a8 => k_is); (case l8 => k_is); (case c8 => k_is); (case k8 => k_is); (case b8 => exact fun _ _ _ _ _ _ us hl => match us, hl with | [_, _], _ => rfl)
    (case a9 => k_is); (case l9 => k_is); (case c9 => k_is); (case k9 => k_is); (case b9 => exact fun _ _ _ _ _ _ us hl => match us, hl with | [_, _], _ => rfl)
    (case a10 => k_is); (case l10 => k_is); (case c10 => k_is); (case k10 => k_is); (case b10 => exact fun _ _ _ _ _ _ us hl => match us, hl with | [_, _], _ => rfl)
    (case a11 => k_is); (case l11 => k_is); (case c11 => k_is); (case k11 => k_is); (case b11 => exact fun _ _ _ _ _ _ us hl => match us, hl with | [_, _, _], _ => rfl)
    (case ar => k_is); (case lr => k_is); (case cr => k_is); (case kr => k_is); (case dr => k_is); (case rr => exact ⟨_, rfl⟩)
    (case as => k_is); (case ls => k_is); (case cs => k_is); (case ks => k_is); (case ds => k_is); (case rs => exact ⟨_, rfl⟩)
    (case x0 => k_is); (case y0 => k_is); (case u0 => k_is); (case v0 => k_is); (case w0 => exact fun _ _ _ _ _ _ us hl => match us, hl with | [_], _ => rfl)
    (case x1 => k_is); (case y1 => k_is); (case u1 => k_is); (case vv1 => k_is); (case w1 => exact fun _ _ _ _ _ _ us hl => match us, hl with | [_, _], _ => rfl)
    (case x2 => k_is); (case y2 => k_is); (case u2 => k_is); (case vv2 => k_is); (case w2 => exact fun _ _ _ _ _ _ us hl => match us, hl with | [_, _], _ => rfl)
    (case x3 => k_is); (case y3 => k_is); (case u3 => k_is); (case vv3 => k_is); (case w3 => exact fun _ _ _ _ _ _ us hl => match us, hl with | [_, _], _ => rfl)
    (case x4 => k_is); (case y4 => k_is); (case u4 => k_is); (case vv4 => k_is); (case w4 => exact fun _ _ _ _ _ _ us hl => match us, hl with | [_, _], _ => rfl)
    (case x6 => k_is); (case y6 => k_is); (case u6 => k_is); (case vv6 => k_is); (case w6 => exact fun _ _ _ _ _ _ us hl => match us, hl with | [_, _, _], _ => rfl)
    (case x7 => k_is); (case y7 => k_is); (case u7 => k_is); (case vv7 => k_is); (case w7 => exact fun _ _ _ _ _ _ us hl => match us, hl with | [_, _, _, _], _ => rfl)
    (case x8 => k_is); (case y8 => k_is); (case u8 => k_is); (case vv8 => k_is); (case w8 => exact fun _ _ _ _ _ _ us hl => match us, hl with | [_, _, _], _ => rfl)
    (case aL => k_is); (case lL => k_is); (case cL => k_is); (case kL => k_is)
