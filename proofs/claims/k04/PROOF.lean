import PyProof.Rows.All
import Wide.All
import OpenK.AllK
import Wide.FinOn
import HandS.ForMost
import HandS.ForExc
import HandS.OwnEq
import HandS.Wide
import HandS.SetFor
import HandS.Strs
import HandS.IsInst
import HandS.TupAny
import HandS.Style
import HandS.Codes
import HandS.Flow
import HandS.Evl
import HandS.Conv
import KE.KEqDeep
import HandS.ExcInit
import HandS.ExcField
import HandS.ExcIs
import HandS.FStr
import HandS.TryMany
import PySem.Challenge.RW_steppedtests_k04_pupils_built
set_option Elab.async false
set_option linter.all false
set_option maxRecDepth 100000
set_option exponentiation.threshold 500
set_option maxHeartbeats 4000000
namespace L2
open PySem PySem.Spec PyProof.Rows
/-! ## own special methods of a class: | & - by __or__ .., <= == by __le__ .., in by __contains__, len by __len__ -/
section
variable {X : Cx} {n : Nat} {CX : CXT} {C f : Addr} {fd : FuncData} {ps : List Str} {sp : Sp} {E : XK} {pins : List (Addr × Obj)} {σ : St} {H : Hp} {s : Shared}
theorem run_own {A : Around} {vs : List V} {us : List Value} {Q : VK} (F : FnOk X.prog X.w X.K X.mg X.base CX n f fd ps sp) (sb : Sub X n A) (hb : Binds X.K fd ps []) (hx : Passes CX X E)
    (I : Inv X pins σ H s) (r : Vals vs us) (h : sp vs H Q E) : wpAny (model X.prog X.w) A (call (.ref f) us) (EP X pins σ Q) X.xe s := by
  have e0 : Env0 X.prog X.w X.K X.mg X.base A X.stack s H := by
    have e := I.env0
    exact ⟨by rw [sb.fr]; exact e.frames, e.mod, e.bs, e.bsz, e.funs, e.frf, e.hok, e.bare⟩
  have hl := F.len _ _ _ _ h
  have hl2 : us.length = ps.length := by rw [← hl, r.length]
  refine wpAny_call (codeAny_mono (F.run A X.stack s H ⟨us, []⟩ us vs Q E sb.room e0 (by
    have := hb s us I.kIn (by simpa using hl2)
    simpa using this) r h) fun r' s' hq => ?_)
  cases r' with
  | error e => exact hx pins σ H s e s' I hq
  | ok fl =>
    cases fl with
    | ret w => exact I.after hq
    | next => exact False.elim hq
    | brk => exact False.elim hq
    | cont => exact False.elim hq
/-- a value of the layer is never NotImplemented -/
theorem back_ep {u : Value} {s' : Shared} {Q : VK} (h : EP X pins σ Q u s') : PySem.W.CmpBack (EP X pins σ Q) u s' := by
  obtain ⟨v, H', I', r, q⟩ := id h
  cases v with
  | non => cases r; exact h
  | bl b => cases r; exact h
  | int i => obtain ⟨t, rfl⟩ := r; exact h
  | str x => obtain ⟨t, rfl⟩ := r; exact h
  | byt x => obtain ⟨t, rfl⟩ := r; exact h
  | flt x => obtain ⟨t, rfl⟩ := r; exact h
  | ref a => cases r; exact h
  | ty m => cases r; exact h
def rOwn (C : Addr) (sp : Sp) (E : XK) : R2 := fun x y H Q => ∃ a b dx dy fs gs, x = .ref a ∧ y = .ref b ∧ H a = some (.ins C dx fs) ∧ H b = some (.ins C dy gs) ∧ sp [.ref a, .ref b] H Q E
theorem op_own {op : Operator} (F : FnOk X.prog X.w X.K X.mg X.base CX n f fd ps sp) (hr : Room n X.A) (hs : PySem.W.findIn X.K (.ref C) (PySem.dunder op.info.2) = some (some (.ref f))) (hf : PySem.W.isFn X.K (.ref f) = true)
    (hc : PySem.W.selfFirst X.K C = true) (hb : Binds X.K fd ps []) (hx : Passes CX X E) : OpR X (binaryOp op) (rOwn C sp E) := by
  intro pins s σ H x y v u Q I rx ry h
  obtain ⟨a, b, dx, dy, fs, gs, rfl, rfl, ha, hb', h⟩ := h
  cases rx
  cases ry
  obtain ⟨mA, J, _⟩ := ins_get I.hok ha
  obtain ⟨mB, J', _⟩ := ins_get I.hok hb'
  obtain ⟨od, J, _⟩ := J.look
  obtain ⟨od', J', _⟩ := J'.look
  obtain ⟨m, hF⟩ := I.fr
  refine PySem.W.binop_K hF I.ok.mod.kin J J'.type hc hs hf ?_
  exact thn (run_own (vs := [.ref a, .ref b]) F ⟨hr, rfl⟩ hb hx I (.cons rfl (.cons rfl .nil)) h) fun u s' q => back_ep q
theorem cmp_own {op : CmpOp} (F : FnOk X.prog X.w X.K X.mg X.base CX n f fd ps sp) (hr : Room n X.A) (hs : PySem.W.findIn X.K (.ref C) (PySem.cmpInfo op).2.1 = some (some (.ref f))) (hf : PySem.W.isFn X.K (.ref f) = true)
    (hb : Binds X.K fd ps []) (hx : Passes CX X E) : OpR X (richCompare op) (rOwn C sp E) := by
  intro pins s σ H x y v u Q I rx ry h
  obtain ⟨a, b, dx, dy, fs, gs, rfl, rfl, ha, hb', h⟩ := h
  cases rx
  cases ry
  obtain ⟨mA, J, _⟩ := ins_get I.hok ha
  obtain ⟨mB, J', _⟩ := ins_get I.hok hb'
  obtain ⟨od, J, _⟩ := J.look
  obtain ⟨od', J', _⟩ := J'.look
  obtain ⟨m, hF⟩ := I.fr
  refine PySem.W.cmp_K hr.units0 hF I.ok.mod.kin J J'.type (by simp [PySem.W.notFirst]) hs hf ?_
  exact thn (run_own (vs := [.ref a, .ref b]) F ⟨hr, rfl⟩ hb hx I (.cons rfl (.cons rfl .nil)) h) fun u s' q => back_ep q
def rOwnIn (C : Addr) (sp : Sp) (E : XK) (neg : Bool) : R2 := fun x y H Q => ∃ b dy gs, y = .ref b ∧ H b = some (.ins C dy gs) ∧ sp [.ref b, x] H (fun v H' => ∃ k, v = .bl k ∧ Q (.bl (if neg then !k else k)) H') E
theorem in_own (F : FnOk X.prog X.w X.K X.mg X.base CX n f fd ps sp) (hr : Room n X.A) (hs : PySem.W.findIn X.K (.ref C) "__contains__" = some (some (.ref f))) (hf : PySem.W.isFn X.K (.ref f) = true)
    (hb : Binds X.K fd ps []) (hx : Passes CX X E) : OpR X (compareOp .In) (rOwnIn C sp E false) := by
  intro pins s σ H x y v u Q I rx ry h
  obtain ⟨b, dy, gs, rfl, hb', h⟩ := h
  cases ry
  obtain ⟨mB, J', _⟩ := ins_get I.hok hb'
  obtain ⟨od', J', _⟩ := J'.look
  obtain ⟨m, hF⟩ := I.fr
  refine PySem.W.in_K hF I.ok.mod.kin J' hs hf ?_
  refine thn (run_own (vs := [.ref b, x]) F ⟨hr, rfl⟩ hb hx I (.cons rfl (.cons rx .nil)) h) fun u s' q => ?_
  obtain ⟨z, H', I', rz, k, rfl, q⟩ := q
  cases rz
  exact wpAny_truthy_bool ⟨.bl k, H', I', rfl, q⟩
theorem notIn_own (F : FnOk X.prog X.w X.K X.mg X.base CX n f fd ps sp) (hr : Room n X.A) (hs : PySem.W.findIn X.K (.ref C) "__contains__" = some (some (.ref f))) (hf : PySem.W.isFn X.K (.ref f) = true)
    (hb : Binds X.K fd ps []) (hx : Passes CX X E) : OpR X (compareOp .NotIn) (rOwnIn C sp E true) := by
  intro pins s σ H x y v u Q I rx ry h
  obtain ⟨b, dy, gs, rfl, hb', h⟩ := h
  cases ry
  obtain ⟨mB, J', _⟩ := ins_get I.hok hb'
  obtain ⟨od', J', _⟩ := J'.look
  obtain ⟨m, hF⟩ := I.fr
  refine PySem.W.notIn_K hF I.ok.mod.kin J' hs hf ?_
  refine thn (run_own (vs := [.ref b, x]) F ⟨hr, rfl⟩ hb hx I (.cons rfl (.cons rx .nil)) h) fun u s' q => ?_
  obtain ⟨z, H', I', rz, k, rfl, q⟩ := q
  cases rz
  exact wpAny_truthy_bool ⟨.bl (!k), H', I', rfl, q⟩
def rOwnLen (C : Addr) (sp : Sp) (E : XK) : List V → Hp → VK → Prop := fun xs H Q => ∃ b dy gs, xs = [.ref b] ∧ H b = some (.ins C dy gs) ∧ sp [.ref b] H (fun v H' => ∃ k : Int, v = .int k ∧ 0 ≤ k ∧ k < 2 ^ 63 ∧ Q (.int k) H') E
theorem len_own (F : FnOk X.prog X.w X.K X.mg X.base CX n f fd ps sp) (hr : Room (n + 1) X.A) (hs : PySem.W.findIn X.K (.ref C) "__len__" = some (some (.ref f))) (hf : PySem.W.isFn X.K (.ref f) = true)
    (hb : Binds X.K fd ps []) (hx : Passes CX X E) : CallR X (.builtin "len") (rOwnLen C sp E) := by
  intro pins s σ H xs us Q I r h
  obtain ⟨b, dy, gs, rfl, hb', h⟩ := h
  rw [Vals.ref1 r]
  obtain ⟨mB, J', _⟩ := ins_get I.hok hb'
  obtain ⟨od', J', _⟩ := J'.look
  obtain ⟨m, hF⟩ := I.fr
  refine PySem.W.len_K hF I.ok.mod.kin J' hs hf ?_
  have sb : Sub X (n + 1) X.A := ⟨hr, rfl⟩
  refine thn (run_own (vs := [.ref b]) F sb.in1 hb hx I (.cons rfl .nil) h) fun u s' q => ?_
  obtain ⟨z, H', I', rz, k, rfl, h0, h1, q⟩ := q
  obtain ⟨t, rfl⟩ := rz
  exact ⟨⟨h0, h1⟩, .int k, H', I'.tok _, ⟨_, rfl⟩, q⟩
/-- web[i] by an own __getitem__ -/
def rOwnIx (C : Addr) (sp : Sp) (E : XK) : R2 := fun x y H Q => ∃ a dx fs, x = .ref a ∧ H a = some (.ins C dx fs) ∧ sp [.ref a, y] H Q E
theorem pe_ownIx {a b : Expr} {ta tb : TE} {pos : Pos} (F : FnOk X.prog X.w X.K X.mg X.base CX n f fd ps sp) (hr : Room (n + 1) X.A) (hs : PySem.W.findIn X.K (.ref C) "__getitem__" = some (some (.ref f))) (hfn : PySem.W.fnIn X.K f = true) (hf : PySem.W.isFn X.K (.ref f) = true)
    (hb : Binds X.K fd ps []) (hx : Passes CX X E) (ha : PE X a ta) (hb' : PE X b tb)
    (hsl : ∀ x i, subscripted b true (.ref x) i = runValue (.builtin "lifetime.subscript" ⟨[.ref x, i], []⟩) := by intro _ _; with_unfolding_all rfl) : PE X (.Subscript a b pos) (tOp (rOwnIx C sp E) ta tb) := by
  refine ⟨fun pins s σ H Q I h => ?_⟩
  refine Subscript_ (binT ha hb' I h fun v u s2 x y H2 I2 rx ry q => ?_)
  obtain ⟨c, dx, fs, rfl, hc, q⟩ := q
  cases rx
  obtain ⟨mB, J', _⟩ := ins_get I2.hok hc
  obtain ⟨od', J', _⟩ := J'.look
  obtain ⟨m, hF⟩ := I2.fr
  have sb : Sub X (n + 1) X.A := ⟨hr, rfl⟩
  exact PySem.W.sub_K hF I2.ok.mod.kin J' hs hfn hf (run_own (vs := [.ref c, y]) F sb.in1 hb hx I2 (.cons rfl (.cons ry .nil)) q) (hsl _ _)
/-- set(t), t a tuple of ints -/
def rSetOf (K : PySem.W.Frag) (w : World) : List V → Hp → VK → Prop := fun xs H Q => ∃ (l : Addr) (ns : List Int), xs = [V.ref l] ∧ SqT K H l (ns.map V.int) ∧ ns.length ≤ 1000 ∧
  ∀ p c, H p = none → c ≤ ns.length → (∀ L : List Int, (∀ k ∈ ns, k ∈ L) → c ≤ L.length) → Q (.ref p) (upd H p (SetO w p (fun j => decide (j ∈ ns)) c))
theorem nodup_le : ∀ (l D : List Int), l.Nodup → (∀ x ∈ l, x ∈ D) → l.length ≤ D.length
  | [], _, _, _ => Nat.zero_le _
  | x :: r, D, hn, h => by
    have hx : x ∈ D := h x List.mem_cons_self
    obtain ⟨h1, h2⟩ := List.nodup_cons.mp hn
    have ih := nodup_le r (D.erase x) h2 fun y hy => by
      have hne : y ≠ x := fun e => h1 (e ▸ hy)
      exact (List.mem_erase_of_ne hne).mpr (h y (List.mem_cons_of_mem _ hy))
    rw [List.length_erase_of_mem hx] at ih
    have : 0 < D.length := List.length_pos_of_mem hx
    rw [List.length_cons]
    omega
theorem cr_setOf (hc : X.calm = true) : CallR X (.type "set") (rSetOf X.K X.w) := by
  intro pins s σ H xs us Q I r h
  obtain ⟨l, ns, rfl, hq, hl, q⟩ := h
  rw [Vals.ref1 r]
  obtain ⟨its, rv, pt, hz⟩ := I.tuple hq
  have hi : IntsAre its.toArray.toList ns := by simpa using ints_of_vals rv
  refine call_set_tupI ns (I.ok.hd hc) (show s.heap.IsTuple l its.toArray from pt) hi (by unfold scanBound; omega) fun h' tk c R hcn k => ?_
  have hn : H s.heap.objs.size = none := I.hok.fresh (Nat.le_refl _)
  refine ⟨.ref s.heap.objs.size, upd H s.heap.objs.size (SetO X.w s.heap.objs.size (fun j => decide (j ∈ ns)) c), I.laid (t' := tk) k (Nat.le_refl _) (setO_new R), rfl, q _ c hn hcn fun L hL => ?_⟩
  obtain ⟨o, es, ep, t, ho, hex, hdt, g, nd, hm2, hb, hf, hn2, hr, hl2⟩ := R
  have z := nodup_le _ L nd fun x hx => hL x (of_decide_eq_true ((hm2 x).mpr hx))
  rw [List.length_map, Array.length_toList, hn2] at z
  exact z
end
end L2

namespace L2
open PySem PySem.Spec PyProof.Rows
/-! ## heaps that keep all but the pool -/
def isPool (o : HO) : Prop := ∃ (a : Addr) (c i b s : Int), o = .lst [.ref a, .int c, .int i, .int b, .int s]
def Gd (H H' : Hp) : Prop := (∀ b o, ¬ isPool o → H b = some o → H' b = some o) ∧ ∀ b o, isPool o → H b = some o → ∃ o', isPool o' ∧ H' b = some o'
theorem Gd.refl (H : Hp) : Gd H H := ⟨fun _ _ _ h => h, fun _ o n h => ⟨o, n, h⟩⟩
theorem Gd.trans {H H1 H2 : Hp} (a : Gd H H1) (b : Gd H1 H2) : Gd H H2 := ⟨fun x o n h => b.1 x o n (a.1 x o n h), fun x o n h => let ⟨o', n', h'⟩ := a.2 x o n h; b.2 x o' n' h'⟩
theorem Same.gd {H H' : Hp} (h : Same H H') : Gd H H' := ⟨fun b o _ e => h b o e, fun b o n e => ⟨o, n, h b o e⟩⟩
theorem fresh_gd {H H' : Hp} {p : Addr} (e : Gd H H') (h : H' p = none) : H p = none := by
  cases q : H p with
  | none => rfl
  | some o =>
    exfalso
    by_cases n : isPool o
    · obtain ⟨o', _, h'⟩ := e.2 p o n q
      rw [h] at h'
      cases h'
    · have := e.1 p o n q
      rw [h] at this
      cases this
theorem np_ints (ns : List Int) : ¬ isPool (.lst (ns.map V.int)) := by
  rintro ⟨a, c, i, b, s, h⟩
  cases ns with
  | nil => cases h
  | cons x r => injection h with h; injection h with h _; cases h
theorem np_frz (o : Obj) (u : HO) : ¬ isPool (.frz o u) := by rintro ⟨a, c, i, b, s, h⟩; cases h
theorem np_tup (xs : List V) : ¬ isPool (.tup xs) := by rintro ⟨a, c, i, b, s, h⟩; cases h
theorem np_ins (C dx : Addr) (fs : List (Str × V)) : ¬ isPool (.ins C dx fs) := by rintro ⟨a, c, i, b, s, h⟩; cases h
theorem Gd.seq {K : PySem.W.Frag} {H H' : Hp} {a : Addr} {ns : List Int} (e : Gd H H') (h : SqL K H a (ns.map V.int)) : SqL K H' a (ns.map V.int) := by
  rcases h with (h | ⟨o, h⟩) | h
  · exact .inl (.inl (e.1 _ _ (np_ints ns) h))
  · exact .inl (.inr ⟨o, e.1 _ _ (np_frz _ _) h⟩)
  · exact .inr h
theorem Same.seqT {K : PySem.W.Frag} {H H' : Hp} {a : Addr} {xs : List V} (e : Same H H') (h : SqT K H a xs) : SqT K H' a xs := by
  rcases h with (h | ⟨o, h⟩) | h
  · exact .inl (.inl (e _ _ h))
  · exact .inl (.inr ⟨o, e _ _ h⟩)
  · exact .inr h
theorem same_upd {H : Hp} {p : Addr} {o : HO} (h : H p = none) : Same H (upd H p o) := fun b x e => by
  rw [upd_ne (ne_of_none e h)]
  exact e
/-- a heap made from H' by changing p, which H did not know -/
theorem Same.mut {H H' : Hp} {p : Addr} {o : HO} (e : Same H H') (h : H p = none) : Same H (upd H' p o) := fun a u ha => by
  rw [upd_ne (ne_of_none ha h)]
  exact e a u ha
theorem Gd.mut {H H' : Hp} {p : Addr} {o : HO} (e : Gd H H') (h : H p = none) : Gd H (upd H' p o) := ⟨fun a u n ha => by
  rw [upd_ne (ne_of_none ha h)]
  exact e.1 a u n ha, fun a u n ha => by
  rw [upd_ne (ne_of_none ha h)]
  exact e.2 a u n ha⟩
theorem Gd.upd {H H' : Hp} {p : Addr} {o : HO} (e : Gd H H') (h : H' p = none) : Gd H (upd H' p o) := e.mut (fresh_gd e h)
/-- the script: known to the object, or of the written part -/
def ScrAt (K : PySem.W.Frag) (H : Hp) (a : Addr) (xs : List V) : Prop :=
  (∃ o, H a = some (.frz o (.lst xs))) ∨ ∃ (o : Obj) (its : Array Value) (n : Nat), K.lookup a = some o ∧ o.cls = .type "list" ∧ o.dict = none ∧ o.data = .seq its n ∧ its.size ≤ sizeLine ∧ Vals xs its.toList
theorem ScrAt.seq {K : PySem.W.Frag} {H : Hp} {a : Addr} {xs : List V} (h : ScrAt K H a xs) : SqL K H a xs := h.elim (fun ⟨o, h⟩ => .inl (.inr ⟨o, h⟩)) fun h => .inr h
theorem ScrAt.gd {K : PySem.W.Frag} {H H' : Hp} {a : Addr} {xs : List V} (e : Gd H H') (h : ScrAt K H a xs) : ScrAt K H' a xs := h.elim (fun ⟨o, h⟩ => .inl ⟨o, e.1 _ _ (np_frz _ _) h⟩) fun h => .inr h
theorem ScrAt.mut {K : PySem.W.Frag} {H : Hp} {a D : Addr} {xs ys : List V} {o : HO} (hD : H D = some (.lst ys)) (h : ScrAt K H a xs) : ScrAt K (upd H D o) a xs :=
  h.elim (fun ⟨u, h⟩ => .inl ⟨u, by rw [upd_ne (ne_of h hD (by intro z; cases z))]; exact h⟩) fun h => .inr h
theorem scr_of {K : PySem.W.Frag} {H : Hp} {a : Addr} {xs : List V} (hO : Only H) (h : SqL K H a xs) : ScrAt K H a xs := by
  rcases h with (h | ⟨o, h⟩) | h
  · rcases hO a with z | ⟨o, ys, z⟩
    · rw [h] at z; cases z
    · rw [h] at z; cases z
  · exact .inl ⟨o, h⟩
  · exact .inr h
/-- the pool at p has drawn at most c times -/
def PoolOk (K : PySem.W.Frag) (p : Addr) (c : Nat) (H : Hp) : Prop := ∃ (sa : Addr) (ns : List Int) (c' i b s : Int), ScrAt K H sa (ns.map V.int) ∧ H p = some (.lst [.ref sa, .int c', .int i, .int b, .int s]) ∧ 0 ≤ c' ∧ c' ≤ (c : Int) ∧ 0 ≤ i ∧ i ≤ (ns.length : Int) ∧ 0 ≤ b ∧ 0 ≤ s ∧ s < 2147483629
theorem PoolOk.same {K : PySem.W.Frag} {p : Addr} {c : Nat} {H H' : Hp} (h : PoolOk K p c H) (e : Same H H') : PoolOk K p c H' := by
  obtain ⟨sa, ns, c', i, b, s, h1, h2, h3⟩ := h
  exact ⟨sa, ns, c', i, b, s, h1.gd e.gd, e _ _ h2, h3⟩
theorem PoolOk.mono {K : PySem.W.Frag} {p : Addr} {c d : Nat} {H : Hp} (h : PoolOk K p c H) (e : c ≤ d) : PoolOk K p d H := by
  obtain ⟨sa, ns, c', i, b, s, h1, h2, h3, h4, h5⟩ := h
  exact ⟨sa, ns, c', i, b, s, h1, h2, h3, by omega, h5⟩
/-- the pool is known, so a new address is another one -/
theorem PoolOk.ne {K : PySem.W.Frag} {p q : Addr} {c : Nat} {H : Hp} (h : PoolOk K p c H) (e : H q = none) : p ≠ q := by
  obtain ⟨sa, ns, c', i, b, s, h1, h2, h3⟩ := h
  exact ne_of_none h2 e
theorem PoolOk.upd {K : PySem.W.Frag} {p q : Addr} {c : Nat} {H : Hp} {o : HO} (h : PoolOk K p c H) (e : H q = none) : PoolOk K p c (upd H q o) := h.same (same_upd e)
/-- a list that stands (not the pool's) is changed: the pool stays -/
theorem PoolOk.mut {K : PySem.W.Frag} {p D : Addr} {c : Nat} {H : Hp} {ys : List V} {o : HO} (h : PoolOk K p c H) (hD : H D = some (.lst ys)) (n : ¬ isPool (.lst ys)) : PoolOk K p c (L2.upd H D o) := by
  obtain ⟨sa, ns, c', i, b, s, h1, h2, h3⟩ := h
  refine ⟨sa, ns, c', i, b, s, h1.mut hD, ?_, h3⟩
  rw [upd_ne (fun e => by
    subst e
    rw [h2] at hD
    injection hD with hD
    exact n ⟨sa, c', i, b, s, hD.symm⟩)]
  exact h2
theorem tyes {σ : St} {H : Hp} {A B : Hp → Prop} (h : A H) : tYes σ H fun b H3 => if b = true then A H3 else B H3 := by
  unfold tYes
  dsimp only
  rw [if_pos rfl]
  exact h
def pl (sa : Addr) (c i b s : Int) : HO := .lst [.ref sa, .int c, .int i, .int b, .int s]
theorem pl_pool (sa : Addr) (c i b s : Int) : isPool (pl sa c i b s) := ⟨sa, c, i, b, s, rfl⟩
theorem gd_pool {H : Hp} {p sa sa' : Addr} {c i b s c' i' b' s' : Int} (h : H p = some (pl sa c i b s)) : Gd H (upd H p (pl sa' c' i' b' s')) := ⟨fun x u n e => by
  have hx : x ≠ p := fun z => by
    subst z
    rw [h] at e
    injection e with e
    exact n ⟨sa, c, i, b, s, e.symm⟩
  rw [upd_ne hx]
  exact e, fun x u n e => by
  by_cases hx : x = p
  · subst hx
    exact ⟨_, pl_pool _ _ _ _ _, upd_same⟩
  · exact ⟨u, n, by rw [upd_ne hx]; exact e⟩⟩
def LIM : Nat := 1099511627776
def spDraw (K : PySem.W.Frag) : Sp := fun vs H Q _ => ∃ (p : Addr) (c : Nat) (lim : Int), vs = [.ref p, .int lim] ∧ PoolOk K p c H ∧ c < LIM ∧ 0 < lim ∧ lim < 2 ^ 200 ∧
  ∀ H' r, Gd H H' → PoolOk K p (c + 1) H' → 0 ≤ r → r < lim → Q (.int r) H'
def spPool (K : PySem.W.Frag) : Sp := fun vs H Q _ => ∃ (x : Addr) (ns : List Int), vs = [.ref x] ∧ ScrAt K H x (ns.map V.int) ∧ ∀ p H', H p = none → Same H H' → PoolOk K p 0 H' → Q (.ref p) H'
theorem atI0 {α : Type} {x : α} {r : List α} : atI (x :: r) 0 = some x := atI_nat (j := 0) rfl
theorem atI1 {α : Type} {x y : α} {r : List α} : atI (x :: y :: r) 1 = some y := atI_nat (j := 1) rfl
theorem atI2 {α : Type} {x y z : α} {r : List α} : atI (x :: y :: z :: r) 2 = some z := atI_nat (j := 2) rfl
theorem atI3 {α : Type} {x y z u : α} {r : List α} : atI (x :: y :: z :: u :: r) 3 = some u := atI_nat (j := 3) rfl
theorem atI4 {α : Type} {x y z u v : α} {r : List α} : atI (x :: y :: z :: u :: v :: r) 4 = some v := atI_nat (j := 4) rfl
/-! ## sets of questions by their ascending lists -/
def ask48 : List Int := (List.range 48).map fun i => ((i : Nat) : Int)
def norm (l : List Int) : List Int := ask48.filter fun x => decide (x ∈ l)
theorem mem_ask {x : Int} : x ∈ ask48 ↔ 0 ≤ x ∧ x < 48 := by
  unfold ask48
  rw [List.mem_map]
  constructor
  · rintro ⟨i, h, rfl⟩
    have := List.mem_range.mp h
    omega
  · rintro ⟨h0, h1⟩
    exact ⟨x.toNat, List.mem_range.mpr (by omega), by omega⟩
theorem mem_norm {l : List Int} {x : Int} : x ∈ norm l ↔ (0 ≤ x ∧ x < 48) ∧ x ∈ l := by
  unfold norm
  rw [List.mem_filter, mem_ask, decide_eq_true_eq]
theorem ask_sorted : ask48.Pairwise (· < ·) := by
  unfold ask48
  rw [List.pairwise_map]
  exact List.Pairwise.imp (fun h => by omega) List.pairwise_lt_range
theorem norm_sorted (l : List Int) : (norm l).Pairwise (· < ·) := ask_sorted.sublist List.filter_sublist
theorem norm_len (l : List Int) : (norm l).length ≤ 48 := by
  refine Nat.le_trans (List.length_filter_le _ _) ?_
  unfold ask48
  rw [List.length_map, List.length_range]
  exact Nat.le_refl _
theorem sorted_ext : ∀ {l l' : List Int}, l.Pairwise (· < ·) → l'.Pairwise (· < ·) → (∀ x, x ∈ l ↔ x ∈ l') → l = l'
  | [], [], _, _, _ => rfl
  | [], b :: r, _, _, h => absurd ((h b).mpr List.mem_cons_self) (by simp)
  | a :: r, [], _, _, h => absurd ((h a).mp List.mem_cons_self) (by simp)
  | a :: r, b :: s, h1, h2, h => by
    obtain ⟨ha, hr⟩ := List.pairwise_cons.mp h1
    obtain ⟨hb, hs⟩ := List.pairwise_cons.mp h2
    have e : a = b := by
      rcases List.mem_cons.mp ((h a).mp List.mem_cons_self) with e | e
      · exact e
      · rcases List.mem_cons.mp ((h b).mpr List.mem_cons_self) with e2 | e2
        · exact e2.symm
        · have := hb a e
          have := ha b e2
          omega
    subst e
    have : r = s := sorted_ext hr hs fun x => by
      constructor
      · intro hx
        rcases List.mem_cons.mp ((h x).mp (List.mem_cons_of_mem _ hx)) with e | e
        · have := ha x hx
          omega
        · exact e
      · intro hx
        rcases List.mem_cons.mp ((h x).mpr (List.mem_cons_of_mem _ hx)) with e | e
        · have := hb x hx
          omega
        · exact e
    rw [this]
theorem norm_ext {l l' : List Int} (h : ∀ x, 0 ≤ x → x < 48 → (x ∈ l ↔ x ∈ l')) : norm l = norm l' :=
  sorted_ext (norm_sorted l) (norm_sorted l') fun x => by
    rw [mem_norm, mem_norm]
    constructor
    · rintro ⟨a, b⟩; exact ⟨a, (h x a.1 a.2).mp b⟩
    · rintro ⟨a, b⟩; exact ⟨a, (h x a.1 a.2).mpr b⟩
theorem norm_of_sorted {l l' : List Int} (h : l.Pairwise (· < ·)) (hm : ∀ x, x ∈ l ↔ x ∈ l') (hr : ∀ x ∈ l', 0 ≤ x ∧ x < 48) : l = norm l' :=
  sorted_ext h (norm_sorted l') fun x => by
    rw [hm, mem_norm]
    exact ⟨fun a => ⟨hr x a, a⟩, fun a => a.2⟩
theorem norm_eq_iff {l l' : List Int} : norm l = norm l' ↔ ∀ x, 0 ≤ x → x < 48 → (x ∈ l ↔ x ∈ l') := by
  constructor
  · intro e x h0 h1
    have : x ∈ norm l ↔ x ∈ norm l' := by rw [e]
    rw [mem_norm, mem_norm] at this
    exact ⟨fun a => (this.mp ⟨⟨h0, h1⟩, a⟩).2, fun a => (this.mpr ⟨⟨h0, h1⟩, a⟩).2⟩
  · exact norm_ext
theorem norm_filter (l : List Int) (p : Int → Bool) : (norm l).filter p = norm (l.filter p) := by
  refine sorted_ext ((norm_sorted l).sublist List.filter_sublist) (norm_sorted _) fun x => ?_
  rw [List.mem_filter, mem_norm, mem_norm, List.mem_filter]
  constructor
  · rintro ⟨⟨a, b⟩, c⟩; exact ⟨a, b, c⟩
  · rintro ⟨a, b, c⟩; exact ⟨⟨a, b⟩, c⟩
theorem norm_norm (l : List Int) : norm (norm l) = norm l := norm_ext fun x h0 h1 => by
  rw [mem_norm]
  exact ⟨fun a => a.2, fun a => ⟨⟨h0, h1⟩, a⟩⟩
/-! ## values -/
theorem flat_ints (ns : List Int) : (ns.map V.int).all flatV = true := by
  rw [List.all_eq_true]
  intro x hx
  obtain ⟨i, _, rfl⟩ := List.mem_map.mp hx
  rfl
theorem eqV_int (i j : Int) : eqV (.int i) (.int j) = decide (i = j) := by
  show (i == j) = _
  rw [Bool.eq_iff_iff]
  simp
theorem in_ints (x : Int) (ns : List Int) : inV (.int x) (ns.map V.int) = decide (x ∈ ns) := by
  unfold inV
  rw [Bool.eq_iff_iff, List.any_eq_true, decide_eq_true_eq]
  constructor
  · rintro ⟨y, hy, e⟩
    obtain ⟨i, hi, rfl⟩ := List.mem_map.mp hy
    rw [eqV_int, decide_eq_true_eq] at e
    exact e ▸ hi
  · intro h
    exact ⟨.int x, List.mem_map.mpr ⟨x, h, rfl⟩, by rw [eqV_int, decide_eq_true_eq]⟩
theorem dpAll_ints {K : PySem.W.Frag} {H : Hp} : ∀ ns : List Int, DpAll K H (ns.map V.int) (ns.map PyData.int)
  | [] => .nil
  | n :: r => .cons (.int n) (dpAll_ints r)
theorem canLay_ints : ∀ ns : List Int, PyData.canLayAll0 (ns.map PyData.int) = true
  | [] => by rw [List.map_nil, PyData.canLayAll0]
  | n :: r => by
    rw [List.map_cons, PyData.canLayAll0, canLay_ints r]
    rfl
theorem depth_ints : ∀ ns : List Int, PyData.depthAll (ns.map PyData.int) = 0
  | [] => by rw [List.map_nil, PyData.depthAll]
  | n :: r => by
    rw [List.map_cons, PyData.depthAll, depth_ints r]
    rfl
theorem shT (ns : List Int) : SeqAt.shaped (.tuple (ns.map PyData.int)) = true := by
  simp [SeqAt.shaped, PyData.canLay0, canLay_ints, PyData.depth, depth_ints]
theorem shL (ns : List Int) : SeqAt.shaped (.list (ns.map PyData.int)) = true := by
  simp [SeqAt.shaped, PyData.canLay0, canLay_ints, PyData.depth, depth_ints]
theorem evT (ns ms : List Int) : PyData.eqv (.tuple (ns.map PyData.int)) (.tuple (ms.map PyData.int)) = decide (ns = ms) := by
  rw [PyData.eqv, PySem.W.ked_eqvAll]
theorem evL (ns ms : List Int) : PyData.eqv (.list (ns.map PyData.int)) (.list (ms.map PyData.int)) = decide (ns = ms) := by
  rw [PyData.eqv, PySem.W.ked_eqvAll]
theorem eqD_tup {K : PySem.W.Frag} {H : Hp} {a b : Addr} {ns ms : List Int} {Q : VK} (h1 : SqT K H a (ns.map V.int)) (h2 : SqT K H b (ms.map V.int)) (q : Q (.bl (decide (ns = ms))) H) : rEqD K (.ref a) (.ref b) H Q :=
  ⟨_, _, .tup h1 (dpAll_ints ns), .tup h2 (dpAll_ints ms), shT ns, shT ms, by rw [evT]; exact q⟩
theorem neD_tup {K : PySem.W.Frag} {H : Hp} {a b : Addr} {ns ms : List Int} {Q : VK} (h1 : SqT K H a (ns.map V.int)) (h2 : SqT K H b (ms.map V.int)) (q : Q (.bl (!decide (ns = ms))) H) : rNeD K (.ref a) (.ref b) H Q :=
  ⟨_, _, .tup h1 (dpAll_ints ns), .tup h2 (dpAll_ints ms), shT ns, shT ms, by rw [evT]; exact q⟩
theorem eqD_lst {K : PySem.W.Frag} {H : Hp} {a b : Addr} {ns ms : List Int} {Q : VK} (h1 : SqL K H a (ns.map V.int)) (h2 : SqL K H b (ms.map V.int)) (q : Q (.bl (decide (ns = ms))) H) : rEqD K (.ref a) (.ref b) H Q :=
  ⟨_, _, .lst h1 (dpAll_ints ns), .lst h2 (dpAll_ints ms), shL ns, shL ms, by rw [evL]; exact q⟩
theorem neD_lst {K : PySem.W.Frag} {H : Hp} {a b : Addr} {ns ms : List Int} {Q : VK} (h1 : SqL K H a (ns.map V.int)) (h2 : SqL K H b (ms.map V.int)) (q : Q (.bl (!decide (ns = ms))) H) : rNeD K (.ref a) (.ref b) H Q :=
  ⟨_, _, .lst h1 (dpAll_ints ns), .lst h2 (dpAll_ints ms), shL ns, shL ms, by rw [evL]; exact q⟩
/-! ## pupils -/
/-- at a a pupil whose rights are the ascending list of l -/
def PupAt (C : Addr) (H : Hp) (a : Addr) (l : List Int) : Prop := ∃ dx t, H a = some (.ins C dx [("rights", .ref t)]) ∧ H t = some (.tup ((norm l).map V.int))
theorem PupAt.same {C a : Addr} {H H' : Hp} {l : List Int} (e : Same H H') (h : PupAt C H a l) : PupAt C H' a l := by
  obtain ⟨dx, t, h1, h2⟩ := h
  exact ⟨dx, t, e _ _ h1, e _ _ h2⟩
theorem PupAt.gd {C a : Addr} {H H' : Hp} {l : List Int} (e : Gd H H') (h : PupAt C H a l) : PupAt C H' a l := by
  obtain ⟨dx, t, h1, h2⟩ := h
  exact ⟨dx, t, e.1 _ _ (np_ins _ _ _) h1, e.1 _ _ (np_tup _) h2⟩
theorem PupAt.eq {C a : Addr} {H : Hp} {l l' : List Int} (h : PupAt C H a l) (e : norm l = norm l') : PupAt C H a l' := by
  obtain ⟨dx, t, h1, h2⟩ := h
  exact ⟨dx, t, h1, by rw [← e]; exact h2⟩
/-- questions: each from 0 to 47 -/
def Qn (l : List Int) : Prop := ∀ k ∈ l, 0 ≤ k ∧ k < 48
def SqA (K : PySem.W.Frag) (H : Hp) (q : Addr) (xs : List V) : Prop := SqL K H q xs ∨ SqT K H q xs
def spInit (K : PySem.W.Frag) (C : Addr) : Sp := fun vs H Q _ => ∃ (x dx q : Addr) (l : List Int), vs = [.ref x, .ref q] ∧ H x = some (.ins C dx []) ∧ SqA K H q (l.map V.int) ∧ l.length ≤ 500 ∧ Qn l ∧
  ∀ H' t, H' x = some (.ins C dx [("rights", .ref t)]) → H' t = some (.tup ((norm l).map V.int)) → (∀ b o, b ≠ x → H b = some o → H' b = some o) → Q .non H'
theorem SqA.same {K : PySem.W.Frag} {H H' : Hp} {q : Addr} {xs : List V} (e : Same H H') (h : SqA K H q xs) : SqA K H' q xs := h.elim (fun h => .inl (e.seq h)) fun h => .inr (e.seqT h)
theorem pup_make {K : PySem.W.Frag} {C q : Addr} {H : Hp} {l : List Int} {R : Addr → Hp → Prop} {E : XK} (hq : SqA K H q (l.map V.int)) (hl : l.length ≤ 500) (hn : Qn l) (k : ∀ x H', H x = none → Same H H' → PupAt C H' x l → R x H') :
    ∀ x dx, H x = none → H dx = none → dx ≠ x → spInit K C (.ref x :: ([.ref q] ++ [])) (upd (upd H dx (.own x)) x (.ins C dx [])) (fun v H2 => v = .non ∧ R x H2) E := by
  intro x dx nx ndx ne
  have s0 : Same H (upd (upd H dx (.own x)) x (.ins C dx [])) := (same_upd ndx).mut nx
  refine ⟨x, dx, q, l, rfl, upd_same, hq.same s0, hl, hn, fun H' t h1 h2 h3 => ⟨rfl, k x H' nx (fun b o e => ?_) ⟨dx, t, h1, h2⟩⟩⟩
  exact h3 b o (ne_of_none e nx) (s0 b o e)
def spBin (C : Addr) (f : List Int → List Int → List Int) : Sp := fun vs H Q _ => ∃ (a b : Addr) (p q : List Int), vs = [.ref a, .ref b] ∧ PupAt C H a p ∧ PupAt C H b q ∧ ∀ x H', H x = none → Same H H' → PupAt C H' x (f p q) → Q (.ref x) H'
def spRel (C : Addr) (f : List Int → List Int → Bool) : Sp := fun vs H Q _ => ∃ (a b : Addr) (p q : List Int), vs = [.ref a, .ref b] ∧ PupAt C H a p ∧ PupAt C H b q ∧ ∀ H', Same H H' → Q (.bl (f (norm p) (norm q))) H'
def fOr (p q : List Int) : List Int := p ++ q
def fAnd (p q : List Int) : List Int := p.filter fun x => decide (x ∈ q)
def fSub (p q : List Int) : List Int := p.filter fun x => !decide (x ∈ q)
def fLe (p q : List Int) : Bool := p.all fun x => decide (x ∈ q)
def fEq (p q : List Int) : Bool := decide (p = q)
theorem norm_or (p q : List Int) : norm (norm p ++ norm q) = norm (p ++ q) := norm_ext fun x h0 h1 => by
  simp only [List.mem_append, mem_norm]
  exact ⟨fun h => h.elim (fun a => .inl a.2) fun a => .inr a.2, fun h => h.elim (fun a => .inl ⟨⟨h0, h1⟩, a⟩) fun a => .inr ⟨⟨h0, h1⟩, a⟩⟩
theorem qn_norm (l : List Int) : Qn (norm l) := fun k hk => (mem_norm.mp hk).1
theorem qn_append {l m : List Int} (h1 : Qn l) (h2 : Qn m) : Qn (l ++ m) := fun k hk => (List.mem_append.mp hk).elim (h1 k) (h2 k)
theorem qn_filter {l : List Int} {p : Int → Bool} (h1 : Qn l) : Qn (l.filter p) := fun k hk => h1 k (List.mem_filter.mp hk).1
/-- a comprehension over a list that keeps some of its ints as they are -/
theorem filter_take_succ {l : List Int} {p : Int → Bool} {i : Nat} {x : Int} (h : l[i]? = some x) : (l.take (i + 1)).filter p = (l.take i).filter p ++ (if p x = true then [x] else []) := by
  rw [List.take_add_one, h, List.filter_append]
  show _ ++ List.filter p [x] = _
  rw [List.filter_cons]
  rfl
theorem get_map_int {l : List Int} {i : Nat} {v : V} (h : (l.map V.int)[i]? = some v) : ∃ x, l[i]? = some x ∧ v = .int x := by
  rw [List.getElem?_map] at h
  cases e : l[i]? with
  | none => rw [e] at h; cases h
  | some x => rw [e] at h; exact ⟨x, rfl, (Option.some.inj h).symm⟩
theorem catA_k {K : PySem.W.Frag} {H : Hp} {a b : Addr} {xs ys : List V} {Q : VK} (h1 : SqT K H a xs) (h2 : SqT K H b ys) (hl : xs.length + ys.length ≤ sizeLine) (k : ∀ p H', Same H H' → SqT K H' p (xs ++ ys) → Q (.ref p) H') : rCatA K (.ref a) (.ref b) H Q := by
  refine ⟨a, b, xs, ys, rfl, rfl, h1, h2, hl, fun e => ?_, fun _ e => ?_, fun _ _ p hp => k p _ (same_upd hp) (.inl (.inl upd_same))⟩
  · subst e
    exact k b H (Same.refl H) h2
  · subst e
    exact k a H (Same.refl H) (by rw [List.append_nil]; exact h1)
section
variable {K : PySem.W.Frag} {a : Addr} {tt : TT} {te : TE} {vs : List Nat} {σ : St} {H1 : Hp} {D : Addr} {Qd : Hp → Prop} {j : Nat}
/-- one turn of a comprehension that keeps some ints as they are -/
theorem filt_turn {ns : List Int} {p : Int → Bool} {i : Nat} {x : Int} {H : Hp} (nD : H1 D = none) (hlen : ns.length < 100000) (hx : ns[i]? = some x)
    (ht : ∀ H', Same H1 H' → ∀ R : Bool → Hp → Prop, R (p x) H' → tt ((wipe σ vs).set j (some (.int x))) H' R) (he : ∀ H', Same H1 H' → ∀ R : VK, R (.int x) H' → te ((wipe σ vs).set j (some (.int x))) H' R)
    (h : Same H1 H ∧ H D = some (.lst (((ns.take i).filter p).map V.int))) :
    tt ((wipe σ vs).set j (some (.int x))) H fun b H3 => if b = true then te ((wipe σ vs).set j (some (.int x))) H3 fun y H4 => ∃ acc, H4 D = some (.lst acc) ∧ acc.length < sizeLine ∧ (Same H1 (upd H4 D (.lst (acc ++ [y]))) ∧ upd H4 D (.lst (acc ++ [y])) D = some (.lst (((ns.take (i + 1)).filter p).map V.int)))
      else (Same H1 H3 ∧ H3 D = some (.lst (((ns.take (i + 1)).filter p).map V.int))) := by
  obtain ⟨e, hD⟩ := h
  refine ht H e _ ?_
  have ef := filter_take_succ (p := p) hx
  cases hp : p x with
  | true =>
    rw [hp] at ef
    refine iteT (he H e _ ⟨_, hD, ?_, e.mut nD, ?_⟩)
    · rw [List.length_map]
      have h1 := List.length_filter_le p (ns.take i)
      have h2 := List.length_take_le i ns
      have h3 : (ns.take i).length ≤ ns.length := by rw [List.length_take]; exact Nat.min_le_right _ _
      rw [sizeLine_eq]; omega
    · rw [upd_same, ef, List.map_append]
      rfl
  | false =>
    rw [hp] at ef
    refine iteF ⟨e, ?_⟩
    rw [ef, if_neg (by decide), List.append_nil]
    exact hD
def lcT_filter {ns : List Int} (p : Int → Bool) (hs : SqT K H1 a (ns.map V.int)) (nD : H1 D = none) (hlen : ns.length < 100000) (hw : ∀ x, wipe ((wipe σ vs).set j (some x)) vs = wipe σ vs)
    (ht : ∀ x ∈ ns, ∀ H', Same H1 H' → ∀ R : Bool → Hp → Prop, R (p x) H' → tt ((wipe σ vs).set j (some (.int x))) H' R) (he : ∀ x ∈ ns, ∀ H', Same H1 H' → ∀ R : VK, R (.int x) H' → te ((wipe σ vs).set j (some (.int x))) H' R)
    (k : ∀ H', Same H1 H' → H' D = some (.lst ((ns.filter p).map V.int)) → Qd H') := 
  lc_tup (K := K) (a := a) (xs := ns.map V.int) (g := gName j) (tt := tt) (te := te) (vs := vs) (σ := σ) (H1 := H1) (D := D) (Qd := Qd) (fun i H => Same H1 H ∧ H D = some (.lst (((ns.take i).filter p).map V.int))) ⟨same_upd nD, upd_same⟩ (fun i H _ h => h.1.seqT hs)
    (fun i y H hi h => by
      obtain ⟨x, hx, rfl⟩ := get_map_int hi
      have hm := List.mem_of_getElem? hx
      exact ⟨hw _, filt_turn nD hlen hx (ht x hm) (he x hm) h⟩)
    (fun H h => k H h.1 (by have := h.2; rw [List.length_map, List.take_length] at this; exact this))
def lcL_filter {ns : List Int} (p : Int → Bool) (hs : SqL K H1 a (ns.map V.int)) (nD : H1 D = none) (hlen : ns.length < 100000) (hw : ∀ x, wipe ((wipe σ vs).set j (some x)) vs = wipe σ vs)
    (ht : ∀ x ∈ ns, ∀ H', Same H1 H' → ∀ R : Bool → Hp → Prop, R (p x) H' → tt ((wipe σ vs).set j (some (.int x))) H' R) (he : ∀ x ∈ ns, ∀ H', Same H1 H' → ∀ R : VK, R (.int x) H' → te ((wipe σ vs).set j (some (.int x))) H' R)
    (k : ∀ H', Same H1 H' → H' D = some (.lst ((ns.filter p).map V.int)) → Qd H') := 
  lc_list (K := K) (a := a) (xs := ns.map V.int) (g := gName j) (tt := tt) (te := te) (vs := vs) (σ := σ) (H1 := H1) (D := D) (Qd := Qd) (fun i H => Same H1 H ∧ H D = some (.lst (((ns.take i).filter p).map V.int))) ⟨same_upd nD, upd_same⟩ (fun i H _ h => h.1.seq hs)
    (fun i y H hi h => by
      obtain ⟨x, hx, rfl⟩ := get_map_int hi
      have hm := List.mem_of_getElem? hx
      exact ⟨hw _, filt_turn nD hlen hx (ht x hm) (he x hm) h⟩)
    (fun H h => k H h.1 (by have := h.2; rw [List.length_map, List.take_length] at this; exact this))
def rgI (n : Nat) : List Int := (List.range n).map fun i => ((i : Nat) : Int)
theorem rgI_get {n i : Nat} (h : i < n) : (rgI n)[i]? = some (i : Int) := by
  unfold rgI
  rw [List.getElem?_map, List.getElem?_range h]
  rfl
theorem rgI_length (n : Nat) : (rgI n).length = n := by unfold rgI; rw [List.length_map, List.length_range]
theorem mem_rgI {n : Nat} {x : Int} : x ∈ rgI n ↔ 0 ≤ x ∧ x < n := by
  unfold rgI
  rw [List.mem_map]
  constructor
  · rintro ⟨i, h, rfl⟩
    have := List.mem_range.mp h
    omega
  · rintro ⟨h0, h1⟩
    exact ⟨x.toNat, List.mem_range.mpr (by omega), by omega⟩
def lcR_filter {n : Nat} (p : Int → Bool) (nD : H1 D = none) (hlen : n < 100000) (hw : ∀ x, wipe ((wipe σ vs).set j (some x)) vs = wipe σ vs)
    (ht : ∀ x ∈ rgI n, ∀ H', Same H1 H' → ∀ R : Bool → Hp → Prop, R (p x) H' → tt ((wipe σ vs).set j (some (.int x))) H' R) (he : ∀ x ∈ rgI n, ∀ H', Same H1 H' → ∀ R : VK, R (.int x) H' → te ((wipe σ vs).set j (some (.int x))) H' R)
    (k : ∀ H', Same H1 H' → H' D = some (.lst (((rgI n).filter p).map V.int)) → Qd H') := 
  lc_range (lo := 0) (n := n) (g := gName j) (tt := tt) (te := te) (vs := vs) (σ := σ) (H1 := H1) (D := D) (Qd := Qd) (fun i H => Same H1 H ∧ H D = some (.lst ((((rgI n).take i).filter p).map V.int))) ⟨same_upd nD, upd_same⟩
    (fun i H hi h => by
      have hx := rgI_get hi
      have hm := List.mem_of_getElem? hx
      have e0 : (0 : Int) + ((i : Nat) : Int) = (i : Int) := Int.zero_add _
      rw [e0]
      exact ⟨hw _, filt_turn nD (by rw [rgI_length]; exact hlen) hx (ht _ hm) (he _ hm) h⟩)
    (fun H h => k H h.1 (by have := h.2; rw [List.take_of_length_le (by rw [rgI_length]; exact Nat.le_refl n)] at this; exact this))
theorem in_k {K : PySem.W.Frag} {neg : Bool} {x : Int} {q : Addr} {ns : List Int} {H : Hp} {Q : VK} (h : SqL K H q (ns.map V.int) ∨ SqT K H q (ns.map V.int)) (k : Q (.bl (if neg then !decide (x ∈ ns) else decide (x ∈ ns))) H) : rIn K neg (.int x) (.ref q) H Q :=
  ⟨q, _, rfl, h, rfl, flat_ints ns, by rw [in_ints]; exact k⟩
theorem tup_of {K : PySem.W.Frag} {H : Hp} {q : Addr} {xs : List V} (h : H q = some (.tup xs)) : SqT K H q xs := .inl (.inl h)
theorem lst_of {K : PySem.W.Frag} {H : Hp} {q : Addr} {xs : List V} (h : H q = some (.lst xs)) : SqL K H q xs := .inl (.inl h)
end
def Draws (K : PySem.W.Frag) (p : Addr) (c : Nat) (H H' : Hp) : Prop := Gd H H' ∧ PoolOk K p c H'
/-- _law_some: a new list of fewer than m questions -/
def spSome (K : PySem.W.Frag) : Sp := fun vs H Q _ => ∃ (p : Addr) (c : Nat) (m : Int), vs = [.ref p, .int m] ∧ PoolOk K p c H ∧ c + 200 < LIM ∧ 0 < m ∧ m ≤ 100 ∧
  ∀ H' D l, H D = none → Gd H H' → PoolOk K p (c + 200) H' → H' D = some (.lst (l.map V.int)) → Qn l → (l.length : Int) < m → Q (.ref D) H'
/-- _law_set: the ascending list -/
def spSet (K : PySem.W.Frag) : Sp := fun vs H Q _ => ∃ (q : Addr) (l : List Int), vs = [.ref q] ∧ SqL K H q (l.map V.int) ∧
  ∀ H' D, H D = none → Same H H' → H' D = some (.lst ((norm l).map V.int)) → Q (.ref D) H'
theorem ask_rg : ask48 = rgI 48 := rfl
theorem norm_rg (l : List Int) : (rgI 48).filter (fun x => decide (x ∈ l)) = norm l := rfl
theorem own_bin {C x y : Addr} {f : List Int → List Int → List Int} {l m : List Int} {H : Hp} {Q : VK} {E : XK} (px : PupAt C H x l) (py : PupAt C H y m) (k : ∀ z H', H z = none → Same H H' → PupAt C H' z (f l m) → Q (.ref z) H') :
    rOwn C (spBin C f) E (.ref x) (.ref y) H Q := by
  obtain ⟨dx, t, hx, _⟩ := id px
  obtain ⟨dy, u, hy, _⟩ := id py
  exact ⟨x, y, dx, dy, _, _, rfl, rfl, hx, hy, x, y, l, m, rfl, px, py, k⟩
theorem own_rel {C x y : Addr} {f : List Int → List Int → Bool} {l m : List Int} {H : Hp} {Q : VK} {E : XK} (px : PupAt C H x l) (py : PupAt C H y m) (k : ∀ H', Same H H' → Q (.bl (f (norm l) (norm m))) H') :
    rOwn C (spRel C f) E (.ref x) (.ref y) H Q := by
  obtain ⟨dx, t, hx, _⟩ := id px
  obtain ⟨dy, u, hy, _⟩ := id py
  exact ⟨x, y, dx, dy, _, _, rfl, rfl, hx, hy, x, y, l, m, rfl, px, py, k⟩
theorem fld_rights {K : PySem.W.Frag} {C x : Addr} {l : List Int} {H : Hp} {Q : VK} (px : PupAt C H x l) (c : Cls K C) (n : NoAttr K C "rights") (k : ∀ t, H t = some (.tup ((norm l).map V.int)) → Q (.ref t) H) :
    ∃ a C dx fs v, V.ref x = .ref a ∧ H a = some (.ins C dx fs) ∧ Cls K C ∧ NoAttr K C "rights" ∧ fs.lookup ("rights" : Str) = some v ∧ Q v H := by
  obtain ⟨dx, t, hx, ht⟩ := px
  exact ⟨x, C, dx, _, .ref t, rfl, hx, c, n, rfl, k t ht⟩
/-! the pure facts -/
theorem le_within {l m : List Int} (h1 : Qn l) : fLe (norm l) (norm m) = decide (l.filter (fun x => !decide (x ∈ m)) = []) := by
  rw [Bool.eq_iff_iff]
  unfold fLe
  rw [List.all_eq_true, decide_eq_true_eq, List.filter_eq_nil_iff]
  constructor
  · intro h x hx
    have := h x (mem_norm.mpr ⟨h1 x hx, hx⟩)
    rw [decide_eq_true_eq, mem_norm] at this
    simp [this.2]
  · intro h x hx
    obtain ⟨a, b⟩ := mem_norm.mp hx
    have := h x b
    rw [decide_eq_true_eq, mem_norm]
    exact ⟨a, by simpa using this⟩
theorem or_within {l m : List Int} (h1 : Qn l) : fEq (norm (fOr l m)) (norm m) = decide (l.filter (fun x => !decide (x ∈ m)) = []) := by
  rw [Bool.eq_iff_iff]
  unfold fEq fOr
  rw [decide_eq_true_eq, decide_eq_true_eq, List.filter_eq_nil_iff, norm_eq_iff]
  constructor
  · intro h x hx
    have := (h x (h1 x hx).1 (h1 x hx).2).mp (List.mem_append.mpr (.inl hx))
    simp [this]
  · intro h x h0 h1
    rw [List.mem_append]
    exact ⟨fun a => a.elim (fun b => by simpa using h x b) id, .inr⟩
theorem and_within {l m : List Int} (h1 : Qn l) : fEq (norm (fAnd l m)) (norm l) = decide (l.filter (fun x => !decide (x ∈ m)) = []) := by
  rw [Bool.eq_iff_iff]
  unfold fEq fAnd
  rw [decide_eq_true_eq, decide_eq_true_eq, List.filter_eq_nil_iff, norm_eq_iff]
  constructor
  · intro h x hx
    have := (h x (h1 x hx).1 (h1 x hx).2).mpr hx
    rw [List.mem_filter] at this
    simp [of_decide_eq_true this.2]
  · intro h x h0 h1
    rw [List.mem_filter]
    exact ⟨fun a => a.1, fun a => ⟨a, by simpa using h x a⟩⟩
theorem le_or (l m : List Int) : fLe (norm l) (norm (fOr l m)) = true := by
  unfold fLe fOr
  rw [List.all_eq_true]
  intro x hx
  obtain ⟨a, b⟩ := mem_norm.mp hx
  exact decide_eq_true (mem_norm.mpr ⟨a, List.mem_append.mpr (.inl b)⟩)
theorem le_and (l m : List Int) : fLe (norm (fAnd l m)) (norm m) = true := by
  unfold fLe fAnd
  rw [List.all_eq_true]
  intro x hx
  obtain ⟨a, b⟩ := mem_norm.mp hx
  exact decide_eq_true (mem_norm.mpr ⟨a, of_decide_eq_true (List.mem_filter.mp b).2⟩)
theorem sub_and (l m : List Int) : norm (fAnd (fSub l m) m) = [] := by
  unfold norm fAnd fSub
  rw [List.filter_eq_nil_iff]
  intro x _ h
  have h := of_decide_eq_true h
  rw [List.mem_filter, List.mem_filter] at h
  obtain ⟨⟨_, h2⟩, h3⟩ := h
  have := of_decide_eq_true h3
  simp [this] at h2
theorem sub_or_and (l m : List Int) : norm (fOr (fSub l m) (fAnd l m)) = norm l := norm_ext fun x h0 h1 => by
  unfold fOr fSub fAnd
  rw [List.mem_append, List.mem_filter, List.mem_filter]
  by_cases h : x ∈ m <;> simp [h]
theorem and_set (l m : List Int) : norm (fAnd l m) = (norm l).filter fun x => decide (x ∈ m) := by
  unfold fAnd
  rw [norm_filter]
theorem sub_set (l m : List Int) : norm (fSub l m) = (norm l).filter fun x => !decide (x ∈ m) := by
  unfold fSub
  rw [norm_filter]
theorem ne_false {l m : List Int} (e : l = m) : (!decide (l = m)) = false := by simp [e]
def spPair (K : PySem.W.Frag) : Sp := fun vs H Q _ => ∃ (o t : Addr) (l m : List Int), vs = [.ref o, .ref t] ∧ H o = some (.lst (l.map V.int)) ∧ H t = some (.lst (m.map V.int)) ∧ Qn l ∧ Qn m ∧ l.length ≤ 200 ∧ m.length ≤ 200 ∧ ∀ H', Same H H' → Q (.bl true) H'
theorem kit_bool {K : PySem.W.Frag} : PySem.W.kitOne K (.type "bool") (.type "bool") = some true := kit_ty (by decide +kernel)
theorem dec_self (b : Bool) : (!decide (V.bl b = V.bl b)) = false := by simp
theorem rg_ints (n : Nat) : rgV 0 (n : Int) = (rgI n).map V.int := by
  unfold rgV rgI
  rw [List.map_map, Int.sub_zero, Int.toNat_natCast]
  refine List.map_congr_left fun i _ => ?_
  show V.int (0 + (i : Int)) = V.int (i : Int)
  rw [Int.zero_add]
/-- a list of questions at r -/
def QsAt (H : Hp) (r : Addr) (l : List Int) : Prop := H r = some (.lst (l.map V.int)) ∧ Qn l ∧ l.length ≤ 200
theorem QsAt.gd {H H' : Hp} {r : Addr} {l : List Int} (e : Gd H H') (h : QsAt H r l) : QsAt H' r l := ⟨e.1 _ _ (np_ints l) h.1, h.2⟩
theorem QsAt.same {H H' : Hp} {r : Addr} {l : List Int} (e : Same H H') (h : QsAt H r l) : QsAt H' r l := h.gd e.gd
theorem two_at {x y : V} {r : Int} (h0 : 0 ≤ r) (h1 : r < 2) : atI [x, y] r = some (if r = 0 then x else y) := by
  rcases (show r = 0 ∨ r = 1 by omega) with e | e
  · subst e; exact atI0
  · subst e; exact atI1
/-! ## a pupil beside the ascending list of its questions -/
theorem np_refs (xs : List Addr) : ¬ isPool (.lst (xs.map V.ref)) := by
  rintro ⟨a, c, i, b, s, h⟩
  cases xs with
  | nil => cases h
  | cons x r =>
    injection h with h
    injection h with _ h
    cases r with
    | nil => cases h
    | cons y r => injection h with h _; cases h
def Pr (C : Addr) (H : Hp) (x y : Addr) : Prop := ∃ l, PupAt C H x l ∧ H y = some (.lst ((norm l).map V.int))
theorem Pr.same {C x y : Addr} {H H' : Hp} (e : Same H H') (h : Pr C H x y) : Pr C H' x y := let ⟨l, a, b⟩ := h; ⟨l, a.same e, e _ _ b⟩
theorem Pr.gd {C x y : Addr} {H H' : Hp} (e : Gd H H') (h : Pr C H x y) : Pr C H' x y := let ⟨l, a, b⟩ := h; ⟨l, a.gd e, e.1 _ _ (np_ints _) b⟩
theorem PupAt.mut {C x q : Addr} {H : Hp} {l : List Int} {zs : List V} {o : HO} (hq : H q = some (.lst zs)) (h : PupAt C H x l) : PupAt C (upd H q o) x l := by
  obtain ⟨dx, t, h1, h2⟩ := h
  exact ⟨dx, t, by rw [upd_ne (ne_of h1 hq (by intro z; cases z))]; exact h1, by rw [upd_ne (ne_of h2 hq (by intro z; cases z))]; exact h2⟩
theorem Pr.mut {C x y q : Addr} {H : Hp} {zs : List V} {o : HO} (hq : H q = some (.lst zs)) (ne : y ≠ q) (h : Pr C H x y) : Pr C (upd H q o) x y := let ⟨l, a, b⟩ := h; ⟨l, a.mut hq, by rw [upd_ne ne]; exact b⟩
theorem Pr.ne {C x y q z : Addr} {H : Hp} {zs : List V} (h : Pr C H x y) (hq : H q = some (.lst (.ref z :: zs))) : y ≠ q := by
  obtain ⟨l, a, b⟩ := h
  refine ne_of b hq fun e => ?_
  injection e with e
  cases hn : norm l with
  | nil => rw [hn] at e; cases e
  | cons u r => rw [hn] at e; injection e with e _; cases e
def Tri (C : Addr) (H : Hp) (PL SL : Addr) (xs ys : List Addr) : Prop := H PL = some (.lst (xs.map V.ref)) ∧ H SL = some (.lst (ys.map V.ref)) ∧ xs.length = 3 ∧ ys.length = 3 ∧ ∀ (k : Nat) x y, xs[k]? = some x → ys[k]? = some y → Pr C H x y
theorem Tri.gd {C PL SL : Addr} {H H' : Hp} {xs ys : List Addr} (e : Gd H H') (h : Tri C H PL SL xs ys) : Tri C H' PL SL xs ys :=
  ⟨e.1 _ _ (np_refs _) h.1, e.1 _ _ (np_refs _) h.2.1, h.2.2.1, h.2.2.2.1, fun k x y a b => (h.2.2.2.2 k x y a b).gd e⟩
theorem at_ref {xs : List Addr} {r : Int} (h0 : 0 ≤ r) (h1 : r < (xs.length : Int)) : ∃ (j : Nat) (x : Addr), xs[j]? = some x ∧ r = (j : Int) ∧ j < xs.length ∧ atI (xs.map V.ref) r = some (.ref x) := by
  obtain ⟨j, rfl⟩ : ∃ j : Nat, r = (j : Int) := ⟨r.toNat, by omega⟩
  have hj : j < xs.length := by omega
  refine ⟨j, xs[j], List.getElem?_eq_getElem hj, rfl, hj, atI_nat ?_⟩
  rw [List.getElem?_map, List.getElem?_eq_getElem hj]
  rfl
theorem get3 {xs : List Addr} {j : Nat} (h : xs.length = 3) (hj : j < 3) : ∃ x, xs[j]? = some x := ⟨xs[j]'(by omega), List.getElem?_eq_getElem _⟩
def spHas (C : Addr) : Sp := fun vs H Q _ => ∃ (a : Addr) (p : List Int) (z : Int), vs = [.ref a, .int z] ∧ PupAt C H a p ∧ Q (.bl (decide (z ∈ norm p))) H
def spLen (C : Addr) : Sp := fun vs H Q _ => ∃ (a : Addr) (p : List Int), vs = [.ref a] ∧ PupAt C H a p ∧ Q (.int ((norm p).length : Nat)) H
def spAdded (C : Addr) : Sp := fun vs H Q _ => ∃ (a : Addr) (p : List Int) (z : Int), vs = [.ref a, .int z] ∧ PupAt C H a p ∧ 0 ≤ z ∧ z < 48 ∧ ∀ x H', H x = none → Same H H' → PupAt C H' x (p ++ [z]) → Q (.ref x) H'
def spAfter (K : PySem.W.Frag) (C : Addr) : Sp := fun vs H Q _ => ∃ (p PL SL : Addr) (c : Nat) (xs ys : List Addr), vs = [.ref p, .ref PL, .ref SL] ∧ PoolOk K p c H ∧ c + 100 < LIM ∧ Tri C H PL SL xs ys ∧
  ∀ H' t x y, Gd H H' → PoolOk K p (c + 100) H' → H' t = some (.tup [.ref x, .ref y]) → H y = none → Pr C H' x y → Q (.ref t) H'
def spRight (C : Addr) : Sp := fun vs H Q _ => ∃ (PL SL : Addr) (xs ys : List Addr), vs = [.ref PL, .ref SL] ∧ Tri C H PL SL xs ys ∧ ∀ H', Same H H' → Q (.bl true) H'
theorem own_has {C x : Addr} {neg : Bool} {z : Int} {p : List Int} {H : Hp} {Q : VK} {E : XK} (px : PupAt C H x p) (k : Q (.bl (if neg then !decide (z ∈ norm p) else decide (z ∈ norm p))) H) : rOwnIn C (spHas C) E neg (.int z) (.ref x) H Q := by
  obtain ⟨dx, t, hx, _⟩ := id px
  exact ⟨x, dx, _, rfl, hx, x, p, z, rfl, px, _, rfl, k⟩
theorem own_len {C x : Addr} {p : List Int} {H : Hp} {Q : VK} {E : XK} (px : PupAt C H x p) (k : Q (.int ((norm p).length : Nat)) H) : rOwnLen C (spLen C) E [.ref x] H Q := by
  obtain ⟨dx, t, hx, _⟩ := id px
  have := norm_len p
  exact ⟨x, dx, _, rfl, hx, x, p, rfl, px, _, rfl, by omega, by omega, k⟩
theorem le_listW (l m : List Int) : fLe (norm l) (norm m) = decide ((norm l).filter (fun x => !decide (x ∈ norm m)) = []) := by
  have := le_within (m := norm m) (qn_norm l)
  rw [norm_norm, norm_norm] at this
  exact this
theorem dpAll_bls {K : PySem.W.Frag} {H : Hp} : ∀ bs : List Bool, DpAll K H (bs.map V.bl) (bs.map PyData.bool)
  | [] => .nil
  | n :: r => .cons (.bl n) (dpAll_bls r)
theorem canLay_bls : ∀ ns : List Bool, PyData.canLayAll0 (ns.map PyData.bool) = true
  | [] => by rw [List.map_nil, PyData.canLayAll0]
  | n :: r => by
    rw [List.map_cons, PyData.canLayAll0, canLay_bls r]
    rfl
theorem depth_bls : ∀ ns : List Bool, PyData.depthAll (ns.map PyData.bool) = 0
  | [] => by rw [List.map_nil, PyData.depthAll]
  | n :: r => by
    rw [List.map_cons, PyData.depthAll, depth_bls r]
    rfl
theorem shB (ns : List Bool) : SeqAt.shaped (.list (ns.map PyData.bool)) = true := by
  simp [SeqAt.shaped, PyData.canLay0, canLay_bls, PyData.depth, depth_bls]
theorem evAll_bls : ∀ ns : List Bool, PyData.eqvAll (ns.map PyData.bool) (ns.map PyData.bool) = true
  | [] => by rw [List.map_nil, PyData.eqvAll]
  | n :: r => by
    rw [List.map_cons, PyData.eqvAll, evAll_bls r]
    cases n <;> simp [PyData.eqv]
theorem neD_bls {K : PySem.W.Frag} {H : Hp} {a b : Addr} {ns : List Bool} {Q : VK} (h1 : SqL K H a (ns.map V.bl)) (h2 : SqL K H b (ns.map V.bl)) (q : Q (.bl false) H) : rNeD K (.ref a) (.ref b) H Q :=
  ⟨_, _, .lst h1 (dpAll_bls ns), .lst h2 (dpAll_bls ns), shB ns, shB ns, by rw [PyData.eqv, evAll_bls]; exact q⟩
theorem take_get {α : Type} {l : List α} {i : Nat} {x : α} (h : l[i]? = some x) : l.take (i + 1) = l.take i ++ [x] := by
  rw [List.take_add_one, h]
  rfl
end L2

namespace L2
open PySem PySem.Spec PyProof.Rows
/-! ## own errors whose __init__ calls the base's by the base's name -/
/-- what the base class B says of B.__init__ -/
structure BaseI (K : PySem.W.Frag) (B : Addr) : Prop where
  ga : PySem.W.specialIn K (.ref B) "__getattribute__" = some (some (.builtin "type.__getattribute__"))
  ty : PySem.W.typeIn K (.ref B) = some (.type "type")
  rd : PySem.W.readsIn K B (.type "type") = true
  fi : PySem.W.findCls K (.ref B) (.type "type") "__init__" = some (.val (.builtin "ValueError.__init__"))
section
variable {X : Cx} {o e : Expr} {es : List Expr} {to te : TE} {ta : TA} {f x : Str} {p p' p1 p2 pos : Pos} {B : Addr}
theorem pe_binit {pl : Sem Bool} (T : BaseI X.K B) (hg : Gl X x) (hm : X.mg x = some (.ref B)) (ha : PA X (e :: es) ta) (hdb : (x == ("__debug__" : Str)) = false := by decide)
    (hc : eval (.Call (.Attribute (.Name x p1) "__init__" p2) (e :: es) [] pos) X.env = (do
      let ov ← eval (.Name x p1) X.env
      standAt p2.atName
      let (f, first) ← holding [ov] (getMethod ov "__init__" pl)
      callWith pos f first (backTo pos (starEach (e :: es) X.env)) (backToKw pos (keywordEach [] X.env))) := by rfl)
    (he : starEach (e :: es) X.env = (false, eval e X.env) :: starEach es X.env := by rfl) (hpl : (backTo pos (starEach es X.env)).any (·.1) = false := by rfl) :
    PE X (.Call (.Attribute (.Name x p1) "__init__" p2) (e :: es) [] pos) (tVeI X.K ta) := by
  refine ⟨fun pins s σ H Q I h => ?_⟩
  refine PySem.W.methodCall_KW (ld_glob I hg hm ?_ hdb) hc
  obtain ⟨m, fr⟩ := I.fr
  refine PySem.W.method_of_cls fr I.ok.mod.kin T.ga (PySem.W.cls_val fr I.ok.mod.kin T.ty T.rd T.fi (by decide +kernel) ?_)
  show wpAny _ _ (callWith pos (Value.builtin "ValueError.__init__") [] (backTo pos (starEach (e :: es) X.env)) []) _ _ _
  refine callWith_method1 (thn (ha.run pos pins _ σ H _ (I.tok _) h) fun us s1 ⟨vs, H1, I1, r1, a, C, ws, ev, hl, T, ea, q⟩ => ?_) he hpl
  subst ev
  cases r1 with
  | @cons _ u0 _ ur ra rw' =>
    obtain rfl : u0 = Value.ref a := ra
    exact oinit_ok T I1 ea (by rw [← Paired.length rw', sizeLine_eq]; omega) fun s' J => ⟨.non, H1, J, rfl, q⟩
end
/-! ## a class made, a method called, where what is raised is wished for at the slots -/
section
variable {X : Cx} {CX : CXT} {k : Nat} {f C : Addr} {fd : FuncData} {ps : List Str} {sp : Sp} {E : St → XK} {x m : Str} {p pos apos : Pos} {e o : Expr} {es : List Expr} {ta : TE} {t : TA}
def tMakeS (C : Addr) (sp : Sp) (E : St → XK) (t : TA) : TE := fun σ H Q => t σ H fun vs H1 => ∀ x dx, H1 x = none → H1 dx = none → dx ≠ x →
  sp (.ref x :: vs) (upd (upd H1 dx (.own x)) x (.ins C dx [])) (fun v H2 => v = .non ∧ Q (.ref x) H2) (E σ)
theorem run_makeS {pins : List (Addr × Obj)} {σ : St} {H : Hp} {s : Shared} {Q : VK} {us : List Value} {vs : List V} (M : Mk X.K C f) (F : FnOk X.prog X.w X.K X.mg X.base CX k f fd ps sp) (hr : Room (k + 1) X.A) (hb : Binds X.K fd ps [])
    (hx : PassesAt CX X σ (E σ)) (I : Inv X pins σ H s) (r : Vals vs us)
    (h : ∀ x dx, H x = none → H dx = none → dx ≠ x → sp (.ref x :: vs) (upd (upd H dx (.own x)) x (.ins C dx [])) (fun v H2 => v = .non ∧ Q (.ref x) H2) (E σ)) : wpAny (model X.prog X.w) X.A (call (.ref C) us) (EP X pins σ Q) X.xe s := by
  let n := s.heap.objs.size
  have want := h (n + 1) n (I.hok.fresh (Nat.le_succ n)) (I.hok.fresh (Nat.le_refl n)) (Nat.ne_of_lt (Nat.lt_succ_self n))
  have J := Inv.made (C := C) I
  have rr : Vals (V.ref (n + 1) :: vs) (Value.ref (n + 1) :: us) := Paired.cons rfl r
  have len : (Value.ref (n + 1) :: us).length = ps.length := rr.length.symm.trans (F.len _ _ _ _ want)
  have bnd := hb _ (Value.ref (n + 1) :: us) J.kIn (by rw [List.append_nil]; exact len)
  rw [List.append_nil] at bnd
  have body := F.run _ X.stack _ _ ⟨Value.ref (n + 1) :: us, []⟩ (Value.ref (n + 1) :: us) _ _ (E σ) (hr.make C us []) (J.env0.make C us []) bnd rr want
  refine wpAny_call (make_map (f := f) I.kIn M.makes M.init (beq_iff_eq.mp M.fn) (codeAny_mono body fun res s' hq => ?_))
  match res, hq with
  | .error er, hq => exact hx pins _ _ er s' J hq
  | .ok (.ret u), hq =>
    obtain ⟨v, H', I3, rv, ev, q3⟩ := J.after hq
    subst ev
    exact ⟨rv, V.ref (n + 1), H', I3, rfl, q3⟩
  | .ok .next, hq => exact hq.elim
  | .ok .brk, hq => exact hq.elim
  | .ok .cont, hq => exact hq.elim
theorem pe_makeS (M : Mk X.K C f) (F : FnOk X.prog X.w X.K X.mg X.base CX k f fd ps sp) (hr : Room (k + 1) X.A) (hg : Gl X x) (hm : X.mg x = some (.ref C)) (hb : Binds X.K fd ps []) (hx : ∀ σ, PassesAt CX X σ (E σ))
    (ha : PA X (e :: es) t) (hdb : (x == ("__debug__" : Str)) = false := by decide) (he : starEach (e :: es) X.env = (false, eval e X.env) :: starEach es X.env := by rfl) (hpl : (backTo pos (starEach es X.env)).any (·.1) = false := by rfl) :
    PE X (.Call (.Name x p) (e :: es) [] pos) (tMakeS C sp E t) :=
  ⟨fun pins s σ H Q I h => wpAny_Call_Name_kw (ld_glob I hg hm
    (PySem.W.callWith_K (h₀ := X.base) I.ok.mod.kin M.kp (thn (ha.run pos pins s σ H _ I h) fun us s1 ⟨vs, H1, I1, r, q⟩ => ⟨I1.kIn, run_makeS M F hr hb (hx σ) I1 r q⟩) he hpl) hdb)⟩
/-- o.m(e, ..), what is raised wished for at the slots -/
def tMethT (C : Addr) (m : Str) (sp : Sp) (E : St → XK) (ta : TE) (t : TA) : TE := fun σ H Q => ta σ H fun x H1 => ∃ a dx fs, x = .ref a ∧ H1 a = some (.ins C dx fs) ∧ fs.lookup m = none ∧ t σ H1 fun vs H2 => sp (.ref a :: vs) H2 Q (E σ)
theorem pe_methT {pl : Sem Bool} (ho : PE X o ta) (c : Cls X.K C) (hm : Meth X.K C m f) (F : FnOk X.prog X.w X.K X.mg X.base CX k f fd ps sp) (hr : Room k X.A) (hb : Binds X.K fd ps []) (hx : ∀ σ, PassesAt CX X σ (E σ)) (ha : PA X (e :: es) t)
    (hst : starEach (e :: es) X.env = (false, eval e X.env) :: starEach es X.env := by rfl) (hpl : (backTo pos (starEach es X.env)).any (·.1) = false := by rfl)
    (ht : eval (.Call (.Attribute o m apos) (e :: es) [] pos) X.env = (eval o X.env >>= fun ov => standAt apos.atName >>= fun _ => holding [ov] (getMethod ov m pl) >>= fun ff =>
      callWith pos ff.1 ff.2 (backTo pos (starEach (e :: es) X.env)) (backToKw pos (keywordEach [] X.env))) := by rfl) :
    PE X (.Call (.Attribute o m apos) (e :: es) [] pos) (tMethT C m sp E ta t) := by
  refine ⟨fun pins s σ H Q I h => ?_⟩
  refine PySem.W.methodCall_KW (pl := pl) (thn (ho.run pins s σ H _ I h) fun u s1 hh => ?_) ht
  obtain ⟨x, H1, I1, rx, a, dx, fs, ex, ea, l, q⟩ := hh
  subst ex
  cases rx
  refine getmeth_ok I1 ea c hm l (PySem.W.callWith_K (first := [.ref a]) (h₀ := X.base) I.ok.mod.kin hm.kp (thn (ha.run pos pins s1 σ H1 _ I1 q) fun us s2 ⟨vs, H2, I2, r, q2⟩ => ⟨I2.kIn, ?_⟩) hst hpl)
  exact run_fnS (us := .ref a :: us) (vs := .ref a :: vs) F hr hb (hx σ) I2 (.cons rfl r) q2
end
/-! ## an error is made and raised: its dict d holds its one field -/
/-- X.__init__(self, v): the base's __init__, then self.f = v -/
def spErr (C : Addr) (f : Str) (ok : V → Prop) : Sp := fun vs H Q _ => ∃ (a : Addr) (v : V), vs = [.ref a, v] ∧ ok v ∧ H a = some (exo a C none) ∧
  ∀ dx, H dx = none → dx ≠ a → Q .non (upd (upd H dx (exd dx [(f, v)])) a (exo a C (some dx)))
def okInt (v : V) : Prop := ∃ i : Int, v = .int i ∧ i.natAbs.log2 < 1920
theorem err_make {C : Addr} {f : Str} {ok : V → Prop} {v : V} {H : Hp} {W : Value → Option Addr → Hp → Prop} {E : XK} (hv : ok v) (k : ∀ d, H d = none → W (.ref C) (some d) (upd H d (.xd [(f, v)]))) :
    [v].length ≤ 1000 ∧ ∀ a, H a = none → spErr C f ok (.ref a :: ([v] ++ [])) (upd H a (exo a C none))
      (fun u H2 => u = .non ∧ ∃ (d : Addr) (fs : List (Str × V)), H2 a = some (exo a C (some d)) ∧ H2 d = some (exd d fs) ∧ H d = none ∧ W (.ref C) (some d) (upd (del H2 a) d (.xd fs))) E := by
  refine ⟨by show 1 ≤ 1000; decide, fun a na => ⟨a, v, rfl, hv, upd_same, fun dx ndx ne => ⟨rfl, dx, [(f, v)], upd_same, ?_, ?_, ?_⟩⟩⟩
  · rw [upd_ne ne, upd_same]
  · rw [upd_ne ne] at ndx
    exact ndx
  · rw [upd_ne ne] at ndx
    have e : upd (del (upd (upd (upd H a (exo a C none)) dx (exd dx [(f, v)])) a (exo a C (some dx))) a) dx (.xd [(f, v)]) = upd H dx (.xd [(f, v)]) := by
      funext b
      by_cases hb : b = dx
      · subst hb
        rw [upd_same, upd_same]
      · rw [upd_ne hb, upd_ne hb]
        by_cases ha : b = a
        · subst ha
          rw [del_same, na]
        · rw [del_ne ha, upd_ne ha, upd_ne hb, upd_ne ha]
    rw [e]
    exact k dx ndx
end L2
namespace PySem.W
open PySem PySem.Spec PySem.Calls PyProof.Rows
section
variable {prog : Program} {w : World} {A : Around} {E : Value → Shared → Prop} {s : Shared} {K : Frag} {x D : Addr} {ox : Obj} {od : Option Obj}
/-- what the class of an error says of __class__ and of its own getter -/
structure ErrK (K : Frag) (D : Addr) : Prop where
  ga : findIn K (.ref D) "__getattribute__" = some (some (.builtin "BaseException.__getattribute__"))
  gg : findIn K (.ref D) "__getattr__" = some none
  sb : subIn K (.ref D) (.type "BaseException") = some true
  hd : hasDictIn K D = true
  cl : findIn K (.ref D) "__class__" = some (some (.builtin "object.__class__"))
  gt : specialIn K (.builtin "object.__class__") "__get__" = some (some (.builtin "getset_descriptor.__get__"))
  tk : takesIn K (.builtin "object.__class__") = some true
  mr : mroIn K D (.type "object") = some true
/-- e.__class__ of an error, with a dict of its own or without -/
theorem err_cls {Q : Option Value → Shared → Prop} (Z : ErrK K D) (X : K.In s.heap) (I : InstAt s.heap x ox D od) (h : Q (some (.ref D)) { s with toks := s.toks + 1 }) : wpAny (model prog w) A (getAttr? (.ref x) "__class__") Q E s := by
  have found : findObj K D od "__class__" = some (.bind (.builtin "getset_descriptor.__get__") (.builtin "object.__class__")) := by
    obtain ⟨cd, hc, _⟩ := any_some Z.hd
    unfold findObj
    rw [hc, Option.bind_some, Z.cl, Option.bind_some]
    simp [Z.gt, Z.tk]
  rcases s with ⟨hp, gs, dr, tk, os⟩
  have la := I.type (M := model prog w); have lb := looks_findIn (M := model prog w) X Z.ga; have lc := looks_findIn (M := model prog w) X Z.gg; have ld := looks_find (M := model prog w) X I found
  have isB : Looks (model prog w) hp (isInstance (.ref x) (.type "BaseException")) true := la.andThen (looks_subIn X Z.sb)
  have n2 : (Value.builtin "BaseException.__getattribute__" == Value.builtin "object.__getattribute__") = false := by decide +kernel
  have n1 : (onTheHeap (Value.ref D) && Value.builtin "BaseException.__getattribute__" == Value.builtin "object.__getattribute__") = false := by rw [n2, Bool.and_false]
  unfold getAttr? getAttrBy? getAttrBy
  refine wpAny_bind (wpAny_mkText (wpAny_bind (wpAny_attempt (wpAny_holding (wpAny_bind (la.at (wpAny_bind (lb.at (?_ : wpAny _ _ (if (onTheHeap (Value.ref D) && Value.builtin "BaseException.__getattribute__" == Value.builtin "object.__getattribute__") = true then _ else _) _ _ _)))))))))
  rw [n1, if_neg Bool.false_ne_true]
  unfold getAttrByItsOwn hookBefore
  refine wpAny_bind (?_ : wpAny _ _ (if onTheHeap (Value.ref D) = true then _ else _) _ _ _)
  have oh : onTheHeap (Value.ref D) = true := rfl
  rw [if_pos oh]
  refine lc.at (wpAny_bind (wpAny_attempt (wpAny_holding ?_)))
  unfold callGetattribute
  rw [show (false && onTheHeap (Value.builtin "BaseException.__getattribute__")) = false from rfl, if_neg Bool.false_ne_true]
  unfold boundAndCalled
  rw [PySem.F.excAttr_ValueError.ga.bind (.ref x)]
  refine wpAny_bind (wpAny_pure (?_ : wpAny _ _ (call (.builtin "BaseException.__getattribute__") [.ref x, .str "__class__" tk]) _ _ _))
  refine wpAny_call (codeAny_call_builtin PySem.F.excAttr_ValueError.ga.plain PySem.F.entry_bexc_ga (@check_slot (model prog w) _ _ ⟨hp, gs, dr, tk + 1, os⟩ "BaseException.__getattribute__" "BaseException" "__getattribute__" (.ref x) [.str "__class__" tk] [] _ (by decide +kernel) (by decide +kernel) isB (PySem.F.args_bexc_ga (.ref x) (.str "__class__" tk)) ?_))
  unfold Builtin.«object.__getattribute__»
  refine wpAny_bind (wpAny_of_eq (a := ((Value.ref x : Value), [Value.str "__class__" tk])) (by first | rfl | (simp only [slotArgs]; rfl)) (wpAny_bind (wpAny_pure (wpAny_bind (la.at (wpAny_bind (ld.at ?_)))))))
  refine (?_ : wpAny _ _ (holding [Value.builtin "object.__class__"] (call (.builtin "getset_descriptor.__get__") [.builtin "object.__class__", .ref x, .ref D]) >>= ret) _ _ _)
  refine wpAny_bind (wpAny_holding (wpAny_call (class_get (s := ⟨hp, gs, dr, tk + 1, os⟩) (ox := ox) (od := od) X I Z.mr (wpAny_pure (?_ : wpAny _ _ (handedOut (.ref D)) _ _ _)))))
  rw [handedOut_of (v := .ref D) rfl]
  first
    | exact wpAny_pure (wpAny_pure h)
    | exact wpAny_pure h
    | exact wpAny_pure (wpAny_bind (wpAny_pure (wpAny_pure h)))
theorem err_kit (Z : ErrK K D) : KitX K (.ref x) (.ref D) (fun h => ∃ ox od, InstAt h x ox D od) := by
  have own : ∃ c' d' cd' sl', K.lookup D = some ⟨c', d', .cls cd', sl'⟩ := by
    obtain ⟨cd, hc, _⟩ := any_some Z.hd
    unfold clsIn at hc
    split at hc
    · rename_i c' d' cd' sl' ho
      exact ⟨_, _, _, _, ho⟩
    · cases hc
  obtain ⟨c', d', cd', sl', ho⟩ := own
  refine ⟨fun _ _ _ ⟨_, _, I⟩ => I.type, fun _ _ X _ A' Q' E' s' k q => ?_, fun h tp dd its n sl X htp => Bool.eq_false_iff.mpr fun q => ?_, fun X ⟨_, _, I⟩ k => err_cls Z X I k⟩
  · unfold isType loadHead
    exact wpAny_bind (wpAny_loadPart (k _ _ (X _ _ ho)) (wpAny_pure q))
  · have e : D = tp := Value.ref.inj (beq_iff_eq.mp q)
    subst e
    have z := (X _ _ ho).symm.trans htp
    cases z
end
end PySem.W
namespace L2
open PySem PySem.Spec PyProof.Rows
/-- isinstance(e, c), e the error that the suite holds, with a dict of its own at d -/
def rIsD (K : PySem.W.Frag) (cls : Value) (d : Option Addr) (a : Addr) : List V → Hp → VK → Prop := fun xs H Q => ∃ (D dd : Addr) (fs : List (Str × V)) (c : V) (cv : Value) (b : Bool), cls = .ref D ∧ d = some dd ∧ H dd = some (.xd fs) ∧ PySem.W.ErrK K D ∧ xs = [.ref a, c] ∧ ClsV c cv ∧ PySem.W.kitOne K (.ref D) cv = some b ∧ Q (.bl b) H
theorem call_isD {X : Cx} {a : Addr} {oe : Obj} {cls : Value} {d : Option Addr} {pn : List (Addr × Obj)} (hz : Zc cls d oe) (hf : ∃ vs, oe.data = .fields vs) : CallR (X.suite a ((a, oe) :: pn)) (.builtin "isinstance") (rIsD X.K cls d a) := by
  intro pins s σ H xs us Q I r h
  obtain ⟨D, dd, fs, c, cv, b, rfl, rfl, hdd, Z, rfl, hc, e, q⟩ := h
  cases r with
  | cons rx rr =>
    cases rr with
    | cons rt rr =>
      cases rr
      cases rx
      obtain rfl := hc.eq rt
      obtain ⟨hget, _⟩ := I.pin (a, oe) (List.mem_append.mpr (.inl List.mem_cons_self))
      obtain ⟨vs, hv⟩ := hf
      have hx : ObjOk X.prog X.w H s.heap dd (.xd fs) := I.hok dd _ hdd
      obtain ⟨mA, hns, _⟩ := hx
      obtain ⟨od, ho, _⟩ := lookIn_ns hns
      have J : PySem.W.InstAt s.heap a oe D (some od) := ⟨hget, hz.1, by unfold PySem.W.notCls; rw [hv] <;> rfl, by rw [hz.2]; exact ho⟩
      exact PySem.W.kia_one (PySem.W.err_kit Z) I.kIn ⟨oe, some od, J⟩ e (fun z => nomatch z) fun tk => ⟨.bl b, H, I.kept (t' := tk) fun _ _ z => z, rfl, q⟩
end L2

namespace L2
open PySem PySem.Spec PyProof.Rows
/-! ## how long the words of an error are -/
theorem len_nat {n k : Nat} (hk : 0 < k) (h : n < 10 ^ k) : (Nat.repr n).toList.length ≤ k := by
  unfold Nat.repr
  rw [String.toList_ofList]
  exact (Nat.length_toDigits_le_iff (by decide) hk).mpr h
theorem len_toString {i : Int} {k : Nat} (hk : 0 < k) (h : i.natAbs < 10 ^ k) : (toString i).toList.length ≤ k + 1 := by
  show (Int.repr i).toList.length ≤ k + 1
  unfold Int.repr
  cases i with
  | ofNat m => exact Nat.le_succ_of_le (len_nat hk h)
  | negSucc m =>
    show ("-" ++ Nat.repr (m + 1)).toList.length ≤ k + 1
    rw [String.toList_append, List.length_append]
    have := len_nat hk (show m + 1 < 10 ^ k from h)
    show 1 + _ ≤ _
    omega
theorem len_app (a b : PySem.Str) : (a ++ b).length = a.length + b.length := by
  have e1 : (a ++ b).cps.toList.length = (a ++ b).length := Array.length_toList
  have e2 : a.cps.toList.length = a.length := Array.length_toList
  have e3 : b.cps.toList.length = b.length := Array.length_toList
  rw [PySem.W.KT.app_list, List.length_append, e2, e3] at e1
  exact e1.symm
/-- a number that an error may carry -/
def Bd (i : Int) : Prop := i.natAbs < 2 ^ 400
theorem Bd.log {i : Int} (h : Bd i) : i.natAbs.log2 < 1920 := by
  by_cases h0 : i.natAbs = 0
  · rw [h0]; decide
  · exact (Nat.log2_lt h0).mpr (Nat.lt_of_lt_of_le h (Nat.pow_le_pow_right (by decide) (by decide)))
theorem Bd.len {i : Int} (h : Bd i) : (PySem.Str.ofString (toString i)).length ≤ 200 := by
  rw [PySem.ofString_length]
  exact Nat.le_trans (len_toString (k := 150) (by decide) (Nat.lt_of_lt_of_le h (by decide +kernel))) (by decide)
def okB (v : V) : Prop := ∃ i : Int, v = .int i ∧ Bd i
/-! ## a pupil made of questions of which some may be none -/
def firstBad (l : List Int) : Option Int := l.find? fun k => !decide (0 ≤ k ∧ k < 48)
theorem first_of : ∀ {l : List Int} {i : Nat} {z : Int}, l[i]? = some z → (∀ y ∈ l.take i, 0 ≤ y ∧ y < 48) → ¬ (0 ≤ z ∧ z < 48) → firstBad l = some z
  | [], i, z, h, _, _ => by simp at h
  | y :: r, 0, z, h, _, hz => by
    have e : y = z := Option.some.inj h
    subst e
    unfold firstBad
    rw [List.find?_cons, decide_eq_false hz]
    rfl
  | y :: r, i + 1, z, h, hp, hz => by
    have hy := hp y (by rw [List.take_succ_cons]; exact List.mem_cons_self)
    have := first_of (l := r) (i := i) (z := z) h (fun u hu => hp u (by rw [List.take_succ_cons]; exact List.mem_cons_of_mem _ hu)) hz
    unfold firstBad at this ⊢
    rw [List.find?_cons, decide_eq_true hy]
    exact this
theorem first_none {l : List Int} (h : Qn l) : firstBad l = none := by
  unfold firstBad
  rw [List.find?_eq_none]
  intro x hx
  rw [decide_eq_true (h x hx)]
  decide
def spInitX (K : PySem.W.Frag) (C CB : Addr) : Sp := fun vs H Q E => ∃ (x dx q : Addr) (l : List Int), vs = [.ref x, .ref q] ∧ H x = some (.ins C dx []) ∧ SqA K H q (l.map V.int) ∧ l.length ≤ 500 ∧ (∀ z ∈ l, Bd z) ∧
  (Qn l → ∀ H' t, H' x = some (.ins C dx [("rights", .ref t)]) → H' t = some (.tup ((norm l).map V.int)) → (∀ b o, b ≠ x → H b = some o → H' b = some o) → Q .non H') ∧
  ∀ z, firstBad l = some z → ∀ d H', H d = none → Same H H' → H' d = some (.xd [("number", .int z)]) → E (.ref CB) (some d) H'
theorem pupX_make {K : PySem.W.Frag} {C CB q : Addr} {H : Hp} {l : List Int} {R : Addr → Hp → Prop} {E : XK} (hq : SqA K H q (l.map V.int)) (hl : l.length ≤ 500) (hb : ∀ z ∈ l, Bd z) (k : Qn l → ∀ x H', H x = none → Same H H' → PupAt C H' x l → R x H')
    (kx : ∀ z, firstBad l = some z → ∀ d H', H d = none → Same H H' → H' d = some (.xd [("number", .int z)]) → E (.ref CB) (some d) H') :
    ∀ x dx, H x = none → H dx = none → dx ≠ x → spInitX K C CB [.ref x, .ref q] (upd (upd H dx (.own x)) x (.ins C dx [])) (fun v H2 => v = .non ∧ R x H2) E := by
  intro x dx nx ndx ne
  have s0 : Same H (upd (upd H dx (.own x)) x (.ins C dx [])) := (same_upd ndx).mut nx
  refine ⟨x, dx, q, l, rfl, upd_same, hq.same s0, hl, hb, fun hn H' t h1 h2 h3 => ⟨rfl, k hn x H' nx (fun b o e => ?_) ⟨dx, t, h1, h2⟩⟩, fun z hz d H' nd e h => kx z hz d H' (s0.free nd) (s0.trans e) h⟩
  exact h3 b o (ne_of_none e nx) (s0 b o e)
/-- where all are questions nothing is raised -/
theorem pupX_good {K : PySem.W.Frag} {C CB q : Addr} {H : Hp} {l : List Int} {R : Addr → Hp → Prop} {E : XK} (hq : SqA K H q (l.map V.int)) (hl : l.length ≤ 500) (hn : Qn l) (k : ∀ x H', H x = none → Same H H' → PupAt C H' x l → R x H') :
    ∀ x dx, H x = none → H dx = none → dx ≠ x → spInitX K C CB [.ref x, .ref q] (upd (upd H dx (.own x)) x (.ins C dx [])) (fun v H2 => v = .non ∧ R x H2) E :=
  pupX_make hq hl (fun z hz => by have := hn z hz; unfold Bd; have : z.natAbs < 48 := by omega
                                  exact Nat.lt_trans this (by decide +kernel)) (fun _ => k) fun z hz => by rw [first_none hn] at hz; cases hz
def spAddedX (C CB : Addr) : Sp := fun vs H Q E => ∃ (a : Addr) (p : List Int) (z : Int), vs = [.ref a, .int z] ∧ PupAt C H a p ∧ Bd z ∧
  ((0 ≤ z ∧ z < 48) → ∀ x H', H x = none → Same H H' → PupAt C H' x (p ++ [z]) → Q (.ref x) H') ∧
  (¬ (0 ≤ z ∧ z < 48) → ∀ d H', H d = none → Same H H' → H' d = some (.xd [("number", .int z)]) → E (.ref CB) (some d) H')
theorem Bd.small {z : Int} (h0 : -1000 ≤ z) (h1 : z < 1000) : Bd z := by
  unfold Bd
  have : z.natAbs < 1001 := by omega
  exact Nat.lt_trans this (by decide +kernel)
theorem kit_sub {K : PySem.W.Frag} {C B : Addr} (h : PySem.W.subIn K (.ref C) (.ref B) = some true) (h2 : PySem.W.isClsIn K B = true) (h3 : PySem.W.typeIn K (.ref B) = some (.type "type")) : PySem.W.kitOne K (.ref C) (.ref B) = some true := by
  unfold PySem.W.kitOne
  split
  · rfl
  · show (if ((PySem.W.clsIn K B).isSome && PySem.W.typeIn K (.ref B) == some (.type "type")) = true then PySem.W.subIn K (.ref C) (.ref B) else none) = some true
    rw [show (PySem.W.clsIn K B).isSome = true from h2, h3, h]
    rfl
end L2

namespace K04
open PySem PySem.Spec PyProof.Rows L2
def topS (i : Nat) : Stmt := PySem.Challenge.pw_steppedtests_k04_pupils_built.main.body.getD i (.Pass ⟨0, 0, 0, 0⟩)
abbrev s_BadQuestion_init : Stmt := inClass (topS 2) 0
abbrev N_BadQuestion_init : List Str := ["self", "number"]
abbrev P_BadQuestion_init : List Str := ["self", "number"]
theorem sc_BadQuestion_init : FnScope N_BadQuestion_init P_BadQuestion_init (defScope s_BadQuestion_init) := ⟨rfl, rfl, rfl, by decide +kernel, rfl, by decide +kernel, by decide +kernel⟩
abbrev s_is_question : Stmt := topS 5
abbrev N_is_question : List Str := ["number"]
abbrev P_is_question : List Str := ["number"]
theorem sc_is_question : FnScope N_is_question P_is_question (defScope s_is_question) := ⟨rfl, rfl, rfl, by decide +kernel, rfl, by decide +kernel, by decide +kernel⟩
abbrev s_Pupil_init : Stmt := inClass (topS 6) 0
abbrev N_Pupil_init : List Str := ["self", "questions", "taken", "question"]
abbrev P_Pupil_init : List Str := ["self", "questions"]
theorem sc_Pupil_init : FnScope N_Pupil_init P_Pupil_init (defScope s_Pupil_init) := ⟨rfl, rfl, rfl, by decide +kernel, rfl, by decide +kernel, by decide +kernel⟩
abbrev s_Pupil_contains : Stmt := inClass (topS 6) 5
abbrev N_Pupil_contains : List Str := ["self", "x"]
abbrev P_Pupil_contains : List Str := ["self", "x"]
theorem sc_Pupil_contains : FnScope N_Pupil_contains P_Pupil_contains (defScope s_Pupil_contains) := ⟨rfl, rfl, rfl, by decide +kernel, rfl, by decide +kernel, by decide +kernel⟩
abbrev s_Pupil_len : Stmt := inClass (topS 6) 6
abbrev N_Pupil_len : List Str := ["self"]
abbrev P_Pupil_len : List Str := ["self"]
theorem sc_Pupil_len : FnScope N_Pupil_len P_Pupil_len (defScope s_Pupil_len) := ⟨rfl, rfl, rfl, by decide +kernel, rfl, by decide +kernel, by decide +kernel⟩
abbrev s_Pupil_eq : Stmt := inClass (topS 6) 7
abbrev N_Pupil_eq : List Str := ["self", "other"]
abbrev P_Pupil_eq : List Str := ["self", "other"]
theorem sc_Pupil_eq : FnScope N_Pupil_eq P_Pupil_eq (defScope s_Pupil_eq) := ⟨rfl, rfl, rfl, by decide +kernel, rfl, by decide +kernel, by decide +kernel⟩
abbrev s_Pupil_added : Stmt := inClass (topS 6) 8
abbrev N_Pupil_added : List Str := ["self", "question"]
abbrev P_Pupil_added : List Str := ["self", "question"]
theorem sc_Pupil_added : FnScope N_Pupil_added P_Pupil_added (defScope s_Pupil_added) := ⟨rfl, rfl, rfl, by decide +kernel, rfl, by decide +kernel, by decide +kernel⟩
abbrev s_l_pool : Stmt := topS 8
abbrev N_l_pool : List Str := ["_law_script"]
abbrev P_l_pool : List Str := ["_law_script"]
theorem sc_l_pool : FnScope N_l_pool P_l_pool (defScope s_l_pool) := ⟨rfl, rfl, rfl, by decide +kernel, rfl, by decide +kernel, by decide +kernel⟩
abbrev s_l_draw : Stmt := topS 9
abbrev N_l_draw : List Str := ["_law_pool_here", "_law_limit", "_law_cell", "_law_digit", "_law_mixed"]
abbrev P_l_draw : List Str := ["_law_pool_here", "_law_limit"]
theorem sc_l_draw : FnScope N_l_draw P_l_draw (defScope s_l_draw) := ⟨rfl, rfl, rfl, by decide +kernel, rfl, by decide +kernel, by decide +kernel⟩
abbrev s_l_questions : Stmt := topS 10
abbrev N_l_questions : List Str := ["_law_pool_here", "_law_spoils", "_law_questions_here", "_law_k", "_law_question", "_law_far"]
abbrev P_l_questions : List Str := ["_law_pool_here", "_law_spoils"]
theorem sc_l_questions : FnScope N_l_questions P_l_questions (defScope s_l_questions) := ⟨rfl, rfl, rfl, by decide +kernel, rfl, by decide +kernel, by decide +kernel⟩
abbrev s_l_built : Stmt := topS 11
abbrev N_l_built : List Str := ["_law_questions_here", "_law_given", "_law_pupil", "e"]
abbrev P_l_built : List Str := ["_law_questions_here"]
theorem sc_l_built : FnScope N_l_built P_l_built (defScope s_l_built) := ⟨rfl, rfl, rfl, by decide +kernel, rfl, by decide +kernel, by decide +kernel⟩
abbrev s_l_added : Stmt := topS 12
abbrev N_l_added : List Str := ["_law_pupil", "_law_question", "e"]
abbrev P_l_added : List Str := ["_law_pupil", "_law_question"]
theorem sc_l_added : FnScope N_l_added P_l_added (defScope s_l_added) := ⟨rfl, rfl, rfl, by decide +kernel, rfl, by decide +kernel, by decide +kernel⟩
abbrev s_l_rights : Stmt := topS 13
abbrev N_l_rights : List Str := ["_law_questions_here", "_law_name"]
abbrev P_l_rights : List Str := ["_law_questions_here"]
theorem sc_l_rights : FnScope N_l_rights P_l_rights (defScope s_l_rights) := ⟨rfl, rfl, rfl, by decide +kernel, rfl, by decide +kernel, by decide +kernel⟩
abbrev s_l_same : Stmt := topS 14
abbrev N_l_same : List Str := ["_law_pupil", "_law_questions_here", "_law_rights_here", "_law_number", "_law_due"]
abbrev P_l_same : List Str := ["_law_pupil", "_law_questions_here"]
theorem sc_l_same : FnScope N_l_same P_l_same (defScope s_l_same) := ⟨rfl, rfl, rfl, by decide +kernel, rfl, by decide +kernel, by decide +kernel⟩
abbrev s_law : Stmt := topS 15
abbrev N_law : List Str := ["_law_script", "_law_pool_here", "_law_questions_here", "_law_wrong", "_law_told", "_law_other", "_law_more", "_law_number"]
abbrev P_law : List Str := ["_law_script"]
theorem sc_law : FnScope N_law P_law (defScope s_law) := ⟨rfl, rfl, rfl, by decide +kernel, rfl, by decide +kernel, by decide +kernel⟩
structure Ad where
  c_TestError : Addr
  c_BadQuestion : Addr
  c_Pupil : Addr
  f_BadQuestion_init : Addr
  d_BadQuestion_init : FuncData
  f_is_question : Addr
  d_is_question : FuncData
  f_Pupil_init : Addr
  d_Pupil_init : FuncData
  f_Pupil_contains : Addr
  d_Pupil_contains : FuncData
  f_Pupil_len : Addr
  d_Pupil_len : FuncData
  f_Pupil_eq : Addr
  d_Pupil_eq : FuncData
  f_Pupil_added : Addr
  d_Pupil_added : FuncData
  f_l_pool : Addr
  d_l_pool : FuncData
  f_l_draw : Addr
  d_l_draw : FuncData
  f_l_questions : Addr
  d_l_questions : FuncData
  f_l_built : Addr
  d_l_built : FuncData
  f_l_added : Addr
  d_l_added : FuncData
  f_l_rights : Addr
  d_l_rights : FuncData
  f_l_same : Addr
  d_l_same : FuncData
  f_law : Addr
  d_law : FuncData
  t_QUESTIONS : Tok
structure Txt (K : PySem.W.Frag) (mg : Str → Option Value) (a : Ad) : Prop where
  g_TestError : mg "TestError" = some (.ref a.c_TestError)
  g_BadQuestion : mg "BadQuestion" = some (.ref a.c_BadQuestion)
  g_Pupil : mg "Pupil" = some (.ref a.c_Pupil)
  cl_Pupil : Cls K a.c_Pupil
  mk_Pupil : Mk K a.c_Pupil a.f_Pupil_init
  nA_Pupil_rights : NoAttr K a.c_Pupil "rights"
  ic_Pupil : PySem.W.findIn K (.ref a.c_Pupil) "__class__" = some (some (.builtin "object.__class__")) ∧ PySem.W.specialIn K (.builtin "object.__class__") "__get__" = some (some (.builtin "getset_descriptor.__get__")) ∧ PySem.W.takesIn K (.builtin "object.__class__") = some true ∧ PySem.W.mroIn K a.c_Pupil (.type "object") = some true
  is_Pupil : PySem.W.kitOne K (.ref a.c_Pupil) (.ref a.c_Pupil) = some true
  bi_TestError : BaseI K a.c_TestError
  ox_BadQuestion : OexC K a.c_BadQuestion
  xf_BadQuestion : XfC K a.c_BadQuestion
  nf_BadQuestion_number : PySem.W.findIn K (.ref a.c_BadQuestion) "number" = some none
  te_BadQuestion : PySem.W.exmOne K (.ref a.c_BadQuestion) (.ref a.c_BadQuestion) = some true
  ek_BadQuestion : PySem.W.ErrK K a.c_BadQuestion
  ii_BadQuestion : PySem.W.findIn K (.ref a.c_BadQuestion) "__init__" = some (some (.ref a.f_BadQuestion_init))
  ti_BadQuestion : PySem.W.typeIn K (.ref a.f_BadQuestion_init) = some (.type "function")
  kt_BadQuestion : PySem.W.kitOne K (.ref a.c_BadQuestion) (.ref a.c_TestError) = some true
  F_BadQuestion_init : Fun K "__init__" "BadQuestion.__init__" s_BadQuestion_init a.f_BadQuestion_init a.d_BadQuestion_init
  b_BadQuestion_init : Binds K a.d_BadQuestion_init P_BadQuestion_init []
  k_BadQuestion_init : PySem.W.keepIn K (.ref a.f_BadQuestion_init) = true
  i_BadQuestion_init : PySem.W.isFn K (.ref a.f_BadQuestion_init) = true
  F_is_question : Fun K "is_question" "is_question" s_is_question a.f_is_question a.d_is_question
  b_is_question : Binds K a.d_is_question P_is_question []
  k_is_question : PySem.W.keepIn K (.ref a.f_is_question) = true
  g_is_question : mg "is_question" = some (.ref a.f_is_question)
  F_Pupil_init : Fun K "__init__" "Pupil.__init__" s_Pupil_init a.f_Pupil_init a.d_Pupil_init
  b_Pupil_init : Binds K a.d_Pupil_init P_Pupil_init []
  k_Pupil_init : PySem.W.keepIn K (.ref a.f_Pupil_init) = true
  i_Pupil_init : PySem.W.isFn K (.ref a.f_Pupil_init) = true
  F_Pupil_contains : Fun K "__contains__" "Pupil.__contains__" s_Pupil_contains a.f_Pupil_contains a.d_Pupil_contains
  b_Pupil_contains : Binds K a.d_Pupil_contains P_Pupil_contains []
  k_Pupil_contains : PySem.W.keepIn K (.ref a.f_Pupil_contains) = true
  i_Pupil_contains : PySem.W.isFn K (.ref a.f_Pupil_contains) = true
  s_Pupil_contains : PySem.W.findIn K (.ref a.c_Pupil) "__contains__" = some (some (.ref a.f_Pupil_contains))
  F_Pupil_len : Fun K "__len__" "Pupil.__len__" s_Pupil_len a.f_Pupil_len a.d_Pupil_len
  b_Pupil_len : Binds K a.d_Pupil_len P_Pupil_len []
  k_Pupil_len : PySem.W.keepIn K (.ref a.f_Pupil_len) = true
  i_Pupil_len : PySem.W.isFn K (.ref a.f_Pupil_len) = true
  s_Pupil_len : PySem.W.findIn K (.ref a.c_Pupil) "__len__" = some (some (.ref a.f_Pupil_len))
  F_Pupil_eq : Fun K "__eq__" "Pupil.__eq__" s_Pupil_eq a.f_Pupil_eq a.d_Pupil_eq
  b_Pupil_eq : Binds K a.d_Pupil_eq P_Pupil_eq []
  k_Pupil_eq : PySem.W.keepIn K (.ref a.f_Pupil_eq) = true
  i_Pupil_eq : PySem.W.isFn K (.ref a.f_Pupil_eq) = true
  s_Pupil_eq : PySem.W.findIn K (.ref a.c_Pupil) "__eq__" = some (some (.ref a.f_Pupil_eq))
  F_Pupil_added : Fun K "added" "Pupil.added" s_Pupil_added a.f_Pupil_added a.d_Pupil_added
  b_Pupil_added : Binds K a.d_Pupil_added P_Pupil_added []
  k_Pupil_added : PySem.W.keepIn K (.ref a.f_Pupil_added) = true
  i_Pupil_added : PySem.W.isFn K (.ref a.f_Pupil_added) = true
  m_Pupil_added : Meth K a.c_Pupil "added" a.f_Pupil_added
  F_l_pool : Fun K "_law_pool" "_law_pool" s_l_pool a.f_l_pool a.d_l_pool
  b_l_pool : Binds K a.d_l_pool P_l_pool []
  k_l_pool : PySem.W.keepIn K (.ref a.f_l_pool) = true
  g_l_pool : mg "_law_pool" = some (.ref a.f_l_pool)
  F_l_draw : Fun K "_law_draw" "_law_draw" s_l_draw a.f_l_draw a.d_l_draw
  b_l_draw : Binds K a.d_l_draw P_l_draw []
  k_l_draw : PySem.W.keepIn K (.ref a.f_l_draw) = true
  g_l_draw : mg "_law_draw" = some (.ref a.f_l_draw)
  F_l_questions : Fun K "_law_questions" "_law_questions" s_l_questions a.f_l_questions a.d_l_questions
  b_l_questions : Binds K a.d_l_questions P_l_questions []
  k_l_questions : PySem.W.keepIn K (.ref a.f_l_questions) = true
  g_l_questions : mg "_law_questions" = some (.ref a.f_l_questions)
  F_l_built : Fun K "_law_built" "_law_built" s_l_built a.f_l_built a.d_l_built
  b_l_built : Binds K a.d_l_built P_l_built []
  k_l_built : PySem.W.keepIn K (.ref a.f_l_built) = true
  g_l_built : mg "_law_built" = some (.ref a.f_l_built)
  F_l_added : Fun K "_law_added" "_law_added" s_l_added a.f_l_added a.d_l_added
  b_l_added : Binds K a.d_l_added P_l_added []
  k_l_added : PySem.W.keepIn K (.ref a.f_l_added) = true
  g_l_added : mg "_law_added" = some (.ref a.f_l_added)
  F_l_rights : Fun K "_law_rights" "_law_rights" s_l_rights a.f_l_rights a.d_l_rights
  b_l_rights : Binds K a.d_l_rights P_l_rights []
  k_l_rights : PySem.W.keepIn K (.ref a.f_l_rights) = true
  g_l_rights : mg "_law_rights" = some (.ref a.f_l_rights)
  F_l_same : Fun K "_law_same" "_law_same" s_l_same a.f_l_same a.d_l_same
  b_l_same : Binds K a.d_l_same P_l_same []
  k_l_same : PySem.W.keepIn K (.ref a.f_l_same) = true
  g_l_same : mg "_law_same" = some (.ref a.f_l_same)
  F_law : Fun K "law" "law" s_law a.f_law a.d_law
  b_law : Binds K a.d_law P_law []
  k_law : PySem.W.keepIn K (.ref a.f_law) = true
  g_law : mg "law" = some (.ref a.f_law)
  g_QUESTIONS : mg "QUESTIONS" = some (.int 48 a.t_QUESTIONS)
  z_abs : mg "abs" = none
  z_int : mg "int" = none
  z_isinstance : mg "isinstance" = none
  z_len : mg "len" = none
  z_list : mg "list" = none
  z_range : mg "range" = none
  z_set : mg "set" = none
  z_sorted : mg "sorted" = none
  z_tuple : mg "tuple" = none
section
variable {P : Program} {w : World} {K : PySem.W.Frag} {mg : Str → Option Value} {base : Heap} {a : Ad}
def spIsQ : Sp := fun vs H Q _ => ∃ n : Int, vs = [.int n] ∧ Q (.bl (decide (0 ≤ n ∧ n < 48))) H
theorem ok_is_question (T : Txt K mg a) : FnOk P w K mg base CX0 1 a.f_is_question a.d_is_question P_is_question spIsQ := by
  refine T.F_is_question.ok sc_is_question (fun vs H Q E h => ?_) (fun cdv A outer s H vs Q E hr h => ?_)
  · obtain ⟨n, rfl, _⟩ := h
    rfl
  · obtain ⟨n, rfl, q⟩ := h
    refine ⟨_, (pss_one (ps_ret (pe_chain op_le op_lt pe_int (pv 0) (pe_glob (v := .int 48) (by rfl) T.g_QUESTIONS ⟨_, rfl⟩)))), ?_⟩
    refine ⟨_, rfl, _, _, rfl, rfl, _, rfl, ?_⟩
    by_cases h0 : (0 : Int) ≤ n
    · rw [decide_eq_true h0]
      refine iteT ⟨_, _, rfl, rfl, ?_⟩
      show Q (.bl (decide (n < 48))) H
      rw [show decide (n < 48) = decide (0 ≤ n ∧ n < 48) by rw [Bool.eq_iff_iff]; simp [h0]]
      exact q
    · rw [decide_eq_false h0]
      refine iteF ?_
      rw [show decide (0 ≤ n ∧ n < 48) = false by simp [h0]] at q
      exact q
theorem ok_BadQuestion_init (T : Txt K mg a) : FnOk P w K mg base CX0 1 a.f_BadQuestion_init a.d_BadQuestion_init P_BadQuestion_init (spErr a.c_BadQuestion "number" okB) := by
  refine T.F_BadQuestion_init.ok sc_BadQuestion_init (fun vs H Q E h => ?_) (fun cdv A outer s H vs Q E hr h => ?_)
  · obtain ⟨x, v, rfl, _⟩ := h
    rfl
  · obtain ⟨x, v, rfl, ⟨i, rfl, hi⟩, hx, k⟩ := h
    refine ⟨_, (pss_cons (ps_expr (pe_binit T.bi_TestError (by rfl) T.g_TestError (pa_cons (pv 0) (pa_cons (pe_joined (PJ.cons pe_str (PJ.cons (pe_fmt (pv 1)) (PJ.cons pe_str PJ.nil)))) pa_nil))))
  (pss_one (ps_ost (pv 0) (pv 1)))), ?_⟩
    have hl := hi.len
    have c0 : Str.empty.length = 0 := rfl
    have c1 : (PySem.Str.ofString "question ").length = 9 := by rw [PySem.ofString_length]; rfl
    have c3 : (PySem.Str.ofString " is not 0 to 47").length = 15 := by rw [PySem.ofString_length]; rfl
    refine ⟨_, rfl, ?_⟩
    refine ⟨_, rfl, by simp only [len_app, c0, c1, c3, sizeLine_eq]; omega, ?_⟩
    refine ⟨_, rfl, .inr ⟨i, rfl, hi.log, _, rfl, by simp only [len_app, c0, c1, c3, sizeLine_eq]; omega, ?_⟩⟩
    refine ⟨_, rfl, by simp only [len_app, c0, c1, c3, sizeLine_eq]; omega, ?_⟩
    refine ⟨x, a.c_BadQuestion, _, rfl, by show 1 ≤ 1000; decide, T.ox_BadQuestion, hx, ?_⟩
    exact ⟨_, rfl, _, rfl, x, a.c_BadQuestion, rfl, T.ox_BadQuestion, T.nf_BadQuestion_number, .inl ⟨hx, fun dx nd ne => k dx nd ne⟩⟩
theorem ok_Pupil_init (T : Txt K mg a) : FnOk P w K mg base (L2.CX P w) 3 a.f_Pupil_init a.d_Pupil_init P_Pupil_init (spInitX K a.c_Pupil a.c_BadQuestion) := by
  refine T.F_Pupil_init.okX sc_Pupil_init (fun vs H Q E h => ?_) (fun cdv A outer s H vs Q E hr h => ?_)
  · obtain ⟨x, dx, q, l, rfl, _⟩ := h
    rfl
  · obtain ⟨x, dx, q, l, rfl, hx, hq, hl, hb, k, kx⟩ := h
    refine ⟨_, (Evl.pss_cut (ps_set (i := 2) sc_Pupil_init.nd rfl (Or.inl rfl) (pe_callTy call_tuple_of (by rfl) T.z_tuple (by decide +kernel) (pa_cons (pv 1) pa_nil)))
  (Evl.pss_cut (ps_for (passes_of rfl) rfl (pi_tup (pv 2)) (pg_name (i := 3) sc_Pupil_init.nd rfl (Or.inl rfl))
    (pss_one (ps_if (pt_not (pt_val (pe_call (ok_is_question T) (hr.mono (by decide)) (by rfl) T.g_is_question T.k_is_question T.b_is_question .nil pass0 (pa_cons (pv 3) pa_nil))))
    (pss_one (ps_raise rfl (takes_of rfl rfl rfl rfl) (pmk_oex T.ox_BadQuestion T.ii_BadQuestion T.ti_BadQuestion (ok_BadQuestion_init T) (hr.mono (by decide)) T.b_BadQuestion_init .nil pass0 (by rfl) T.g_BadQuestion (pa_cons (pv 3) pa_nil))))
    pss_nil)))
  (pss_one (ps_fld (pv 0) (pe_callTy call_tuple_of (by rfl) T.z_tuple (by decide +kernel) (pa_cons (pe_callB (cr_sortedSet rfl) (by rfl) T.z_sorted (by decide +kernel) (pa_cons (pe_callTy (cr_setOf rfl) (by rfl) T.z_set (by decide +kernel) (pa_cons (pv 2) pa_nil)) pa_nil)) pa_nil)) rfl)))), ?_⟩
    refine ⟨fun σ H1 => ∃ t, σ = [some (.ref x), some (.ref q), some (.ref t), none] ∧ Same H H1 ∧ SqT K H1 t (l.map V.int), ?_, ?_⟩
    · refine ⟨_, rfl, q, l.map V.int, rfl, ?_⟩
      rcases hq with hq | hq
      · exact .inl ⟨hq, fun t ht => ⟨t, rfl, same_upd ht, .inl (.inl upd_same)⟩⟩
      · exact .inr ⟨hq, ⟨q, rfl, Same.refl _, hq⟩⟩
    · rintro σ H1 ⟨t, rfl, e1, ht⟩
      refine ⟨fun σ H2 => ∃ v, σ = [some (.ref x), some (.ref q), some (.ref t), v] ∧ Same H H2 ∧ SqT K H2 t (l.map V.int) ∧ Qn l, ?_, ?_⟩
      · refine ⟨_, rfl, t, rfl, ⟨_, ht⟩, for_tup (K := K) (a := t) (xs := l.map V.int) (fun i σ H2 => ∃ v, σ = [some (.ref x), some (.ref q), some (.ref t), v] ∧ Same H H2 ∧ SqT K H2 t (l.map V.int) ∧ Qn (l.take i)) ⟨none, rfl, e1, ht, fun _ h => (nomatch h)⟩ (fun i σ H2 _ ⟨_, _, _, h, _⟩ => h) ?_ ?_⟩
        · rintro i y σ H2 hi ⟨v, rfl, e2, ht2, hp⟩
          obtain ⟨z, hz, rfl⟩ := get_map_int hi
          refine ⟨_, rfl, z, rfl, ?_⟩
          by_cases hz2 : 0 ≤ z ∧ z < 48
          · rw [decide_eq_true hz2]
            refine ⟨_, rfl, ?_⟩
            refine iteF ⟨_, rfl, e2, ht2, ?_⟩
            rw [take_get hz]
            exact qn_append hp fun u hu => by rw [List.mem_singleton.mp hu]; exact hz2
          · rw [decide_eq_false hz2]
            refine ⟨_, rfl, ?_⟩
            refine iteT ?_
            refine ⟨_, rfl, err_make ⟨z, rfl, hb z (List.mem_of_getElem? hz)⟩ fun d nd => ?_⟩
            exact kx z (first_of hz hp hz2) d _ (e2.free nd) (e2.trans (same_upd nd)) upd_same
        · rintro σ H2 ⟨v, rfl, e2, ht2, hp⟩
          rw [List.length_map, List.take_length] at hp
          exact ⟨v, rfl, e2, ht2, hp⟩
      · rintro σ H2 ⟨v, rfl, e2, ht2, hn⟩
        refine ⟨_, rfl, t, l, rfl, ht2, by omega, fun p c np hc hL => ?_⟩
        have hc48 : c ≤ 48 := by
          have := hL ask48 fun k hk => mem_ask.mpr (hn k hk)
          unfold ask48 at this
          rw [List.length_map, List.length_range] at this
          exact this
        refine ⟨p, _, c, rfl, upd_same, by omega, fun ns r hs hm hlen nr => ?_⟩
        have ens : ns = norm l := norm_of_sorted hs (fun x => by rw [hm, decide_eq_true_eq]) hn
        subst ens
        refine ⟨r, _, rfl, .inl ⟨.inl (.inl upd_same), fun t2 nt2 => ?_⟩⟩
        have s2 : Same H2 (upd (upd (upd H2 p (SetO w p (fun j => decide (j ∈ l)) c)) r (.lst ((norm l).map V.int))) t2 (.tup ((norm l).map V.int))) := ((same_upd np).trans (same_upd nr)).trans (same_upd nt2)
        have hx2 := s2 _ _ (e2 _ _ hx)
        have nx : t2 ≠ x := (ne_of_none ((same_upd nr) _ _ ((same_upd np) _ _ (e2 _ _ hx))) nt2).symm
        refine ⟨_, rfl, x, _, dx, [], rfl, hx2, T.cl_Pupil, T.nA_Pupil_rights, by decide, ?_⟩
        refine k hn _ t2 upd_same ?_ fun b o hb e => ?_
        · rw [upd_ne nx, upd_same]
        · rw [upd_ne hb]
          exact s2 _ _ (e2 _ _ e)
theorem ok_Pupil_contains (T : Txt K mg a) : FnOk P w K mg base CX0 1 a.f_Pupil_contains a.d_Pupil_contains P_Pupil_contains (spHas a.c_Pupil) := by
  refine T.F_Pupil_contains.ok sc_Pupil_contains (fun vs H Q E h => ?_) (fun cdv A outer s H vs Q E hr h => ?_)
  · obtain ⟨x, p, z, rfl, _⟩ := h
    rfl
  · obtain ⟨x, p, z, rfl, ⟨dx, t, hx, ht⟩, k⟩ := h
    refine ⟨_, (pss_one (ps_ret (pe_cmpR op_in_seq (pv 1) (pe_fld (pv 0) (by rfl)) (by with_unfolding_all rfl)))), ?_⟩
    exact ⟨_, rfl, _, rfl, x, _, dx, _, _, rfl, hx, T.cl_Pupil, T.nA_Pupil_rights, rfl, in_k (.inr (tup_of ht)) k⟩
theorem ok_Pupil_len (T : Txt K mg a) : FnOk P w K mg base CX0 1 a.f_Pupil_len a.d_Pupil_len P_Pupil_len (spLen a.c_Pupil) := by
  refine T.F_Pupil_len.ok sc_Pupil_len (fun vs H Q E h => ?_) (fun cdv A outer s H vs Q E hr h => ?_)
  · obtain ⟨x, p, rfl, _⟩ := h
    rfl
  · obtain ⟨x, p, rfl, ⟨dx, t, hx, ht⟩, k⟩ := h
    refine ⟨_, (pss_one (ps_ret (pe_callB call_len_seq (by rfl) T.z_len (by decide +kernel) (pa_cons (pe_fld (pv 0) (by rfl)) pa_nil)))), ?_⟩
    refine ⟨_, rfl, x, _, dx, _, _, rfl, hx, T.cl_Pupil, T.nA_Pupil_rights, rfl, t, _, rfl, .inr (tup_of ht), ?_⟩
    rw [List.length_map]
    exact k
theorem ok_Pupil_eq (T : Txt K mg a) : FnOk P w K mg base CX0 4 a.f_Pupil_eq a.d_Pupil_eq P_Pupil_eq (spRel a.c_Pupil fEq) := by
  refine T.F_Pupil_eq.ok sc_Pupil_eq (fun vs H Q E h => ?_) (fun cdv A outer s H vs Q E hr h => ?_)
  · obtain ⟨x, y, p, q, rfl, _⟩ := h
    rfl
  · obtain ⟨x, y, p, q, rfl, pa, pb, k⟩ := h
    obtain ⟨dx, t, hx, ht⟩ := id pa
    obtain ⟨dy, u, hy, hu⟩ := id pb
    refine ⟨_, (pss_one (ps_ret (pe_and (pe_callB call_isi (by rfl) T.z_isinstance (by decide +kernel) (pa_cons (pv 1) (pa_cons (pe_glob (v := .ref a.c_Pupil) (by rfl) T.g_Pupil rfl) pa_nil))) (pe_one (pe_cmpR (op_eqD hr.units) (pe_fld (pv 0) (by rfl)) (pe_fld (pv 1) (by rfl)) (nomark _)))))), ?_⟩
    refine ⟨_, rfl, _, .ref a.c_Pupil, _, _, true, rfl, .own _, .base (.ins hy T.cl_Pupil T.ic_Pupil.1 T.ic_Pupil.2.1 T.ic_Pupil.2.2.1 T.ic_Pupil.2.2.2), T.is_Pupil, _, rfl, iteT ?_⟩
    refine ⟨_, rfl, x, _, dx, _, _, rfl, hx, T.cl_Pupil, T.nA_Pupil_rights, rfl, _, rfl, y, _, dy, _, _, rfl, hy, T.cl_Pupil, T.nA_Pupil_rights, rfl, ?_⟩
    exact eqD_tup (tup_of ht) (tup_of hu) (k H (Same.refl H))
theorem ok_Pupil_added (T : Txt K mg a) : FnOk P w K mg base (L2.CX P w) 5 a.f_Pupil_added a.d_Pupil_added P_Pupil_added (spAddedX a.c_Pupil a.c_BadQuestion) := by
  refine T.F_Pupil_added.okX sc_Pupil_added (fun vs H Q E h => ?_) (fun cdv A outer s H vs Q E hr h => ?_)
  · obtain ⟨x, p, z, rfl, _⟩ := h
    rfl
  · obtain ⟨x, p, z, rfl, ⟨dx, t, hx, ht⟩, bz, k, kx⟩ := h
    refine ⟨_, (pss_one (ps_ret (pe_makeS T.mk_Pupil (ok_Pupil_init T) (hr.mono (by decide)) (by rfl) T.g_Pupil T.b_Pupil_init (fun σ => passAt (takes_of rfl rfl rfl rfl) σ) (pa_cons (pe_op op_catA (pe_fld (pv 0) (by rfl)) (pe_tup (pa_cons (pv 1) pa_nil))) pa_nil)))), ?_⟩
    refine ⟨_, rfl, x, _, dx, _, _, rfl, hx, T.cl_Pupil, T.nA_Pupil_rights, rfl, _, rfl, by show 1 ≤ sizeLine; decide, fun q nq => ?_⟩
    have e1 := same_upd nq (o := .tup [.int z])
    refine catA_k (tup_of (e1 _ _ ht)) (ys := [.int z]) (tup_of upd_same) ?_ fun r H1 e2 hr1 => ?_
    · rw [List.length_map, sizeLine_eq]
      have := norm_len p
      show _ + 1 ≤ _
      omega
    · have hr2 : SqT K H1 r ((norm p ++ [z]).map V.int) := by rw [List.map_append]; exact hr1
      have e12 := e1.trans e2
      refine pupX_make (.inr hr2) ?_ ?_ (fun hn y H2 ny e3 py => ?_) fun u hu d H2 nd e3 h => ?_
      · rw [List.length_append]
        have := norm_len p
        show _ + 1 ≤ _
        omega
      · intro y hy
        rcases List.mem_append.mp hy with hy | hy
        · have := (mem_norm.mp hy).1
          exact Bd.small (by omega) (by omega)
        · rw [List.mem_singleton.mp hy]; exact bz
      · refine k (hn z (List.mem_append.mpr (.inr List.mem_cons_self))) y H2 (e12.free ny) (e12.trans e3) (py.eq ?_)
        refine norm_ext fun y h0 h1 => ?_
        simp only [List.mem_append, mem_norm, h0, h1, true_and, and_self]
      · have hm : u ∈ norm p ++ [z] := List.mem_of_find?_eq_some hu
        have hb : ¬ (0 ≤ u ∧ u < 48) := by
          have := List.find?_some hu
          intro hh
          rw [decide_eq_true hh] at this
          cases this
        rcases List.mem_append.mp hm with hm | hm
        · exact absurd (mem_norm.mp hm).1 hb
        · obtain rfl := List.mem_singleton.mp hm
          exact kx hb d H2 (e12.free nd) (e12.trans e3) h
theorem ok_l_pool (T : Txt K mg a) : FnOk P w K mg base CX0 1 a.f_l_pool a.d_l_pool P_l_pool (spPool K) := by
  refine T.F_l_pool.ok sc_l_pool (fun vs H Q E h => ?_) (fun cdv A outer s H vs Q E hr h => ?_)
  · obtain ⟨x, ns, rfl, _⟩ := h
    rfl
  · obtain ⟨x, ns, rfl, hx, k⟩ := h
    refine ⟨_, (pss_one (ps_ret (pe_lst (pa_cons (pv 0) (pa_cons pe_int (pa_cons pe_int (pa_cons pe_int (pa_cons pe_int pa_nil)))))))), ?_⟩
    refine ⟨_, rfl, by show 5 ≤ sizeLine; decide, fun p hp => ?_⟩
    exact k p _ hp (same_upd hp) ⟨x, ns, 0, 0, 0, 7, hx.gd (same_upd hp).gd, upd_same, by omega, by omega, by omega, by omega, by omega, by omega, by omega⟩
theorem ok_l_draw (T : Txt K mg a) : FnOk P w K mg base CX0 1 a.f_l_draw a.d_l_draw P_l_draw (spDraw K) := by
  refine T.F_l_draw.ok sc_l_draw (fun vs H Q E h => ?_) (fun cdv A outer s H vs Q E hr h => ?_)
  · obtain ⟨p, c, lim, rfl, _⟩ := h
    rfl
  · obtain ⟨p, c, lim, rfl, ⟨sa, ns, c', i, b, st, hsa, hp, c0, c1, i0, i1, b0, s0, s1⟩, hc, l0, l1, k⟩ := h
    refine ⟨_, (Evl.pss_cut (ps_asg (pe_op op_add (pe_ix ix_list (pv 0) pe_int (by intro _ _; rfl)) pe_int) (pg_sub (pv 0) pe_int set_list))
  (Evl.pss_cut (ps_if (PW.pt (pw_and (pt_cmpR op_eq (pe_ix ix_list (pv 0) pe_int (by intro _ _; rfl)) pe_int (nomark _)) (pw_and1 (pt_cmpR op_lt (pe_ix ix_list (pv 0) pe_int (by intro _ _; rfl)) (pe_callB call_len_seq (by rfl) T.z_len (by decide +kernel) (pa_cons (pe_ix ix_list (pv 0) pe_int (by intro _ _; rfl)) pa_nil)) (nomark _)))))
    (pss_cons (ps_set (i := 2) sc_l_draw.nd rfl (Or.inl rfl) (pe_callB call_abs (by rfl) T.z_abs (by decide +kernel) (pa_cons (pe_ix ix_list (pe_ix ix_list (pv 0) pe_int (by intro _ _; rfl)) (pe_ix ix_list (pv 0) pe_int (by intro _ _; rfl)) (by intro _ _; rfl)) pa_nil)))
  (pss_cons (ps_asg (pe_op op_add (pe_ix ix_list (pv 0) pe_int (by intro _ _; rfl)) pe_int) (pg_sub (pv 0) pe_int set_list))
  (pss_one (ps_if (pt_cmpR op_ge (pv 2) (pe_op op_pow pe_int pe_int) (nomark _))
    (pss_one (ps_asg (pv 2) (pg_sub (pv 0) pe_int set_list)))
    (pss_one (ps_asg (pe_op op_mod (pe_callTy call_int1 (by rfl) T.z_int (by decide +kernel) (pa_cons (pe_op op_mul (pe_op op_add (pe_op op_add (pe_ix ix_list (pv 0) pe_int (by intro _ _; rfl)) (pv 2)) pe_int) pe_int) pa_nil)) pe_int) (pg_sub (pv 0) pe_int set_list)))))))
    pss_nil)
  (pss_cons (ps_if (pt_cmpR op_gt (pe_ix ix_list (pv 0) pe_int (by intro _ _; rfl)) pe_int (nomark _))
    (pss_cons (ps_set (i := 3) sc_l_draw.nd rfl (Or.inl rfl) (pe_op op_mod (pe_callTy call_int1 (by rfl) T.z_int (by decide +kernel) (pa_cons (pe_ix ix_list (pv 0) pe_int (by intro _ _; rfl)) pa_nil)) (pv 1)))
  (pss_cons (ps_asg (pe_op op_fdivW (pe_ix ix_list (pv 0) pe_int (by intro _ _; rfl)) (pv 1)) (pg_sub (pv 0) pe_int set_list))
  (pss_one (ps_ret (pv 3)))))
    pss_nil)
  (pss_cons (ps_set (i := 4) sc_l_draw.nd rfl (Or.inl rfl) (pe_op op_mod (pe_callTy call_int1 (by rfl) T.z_int (by decide +kernel) (pa_cons (pe_op op_pow (pe_op op_add (pe_ix ix_list (pv 0) pe_int (by intro _ _; rfl)) (pe_op op_mul (pe_ix ix_list (pv 0) pe_int (by intro _ _; rfl)) pe_int)) pe_int) pa_nil)) pe_int))
  (pss_one (ps_ret (pe_op op_mod (pe_callTy call_int1 (by rfl) T.z_int (by decide +kernel) (pa_cons (pe_op op_fdivW (pv 4) pe_int) pa_nil)) (pv 1)))))))), ?_⟩
    have hp : H p = some (pl sa c' i b st) := hp
    -- pool[1] = pool[1] + 1
    refine ⟨fun σ H1 => σ = [some (.ref p), some (.int lim), none, none, none] ∧ H1 = upd H p (pl sa (c' + 1) i b st), ?_, ?_⟩
    · exact ⟨_, rfl, p, _, 1, _, rfl, rfl, lst_of hp, atI1, c', 1, rfl, rfl, _, rfl, p, _, 1, 1, rfl, rfl, hp, rfl, rfl, rfl⟩
    · rintro σ H1 ⟨rfl, rfl⟩
      -- the cell
      refine ⟨fun σ H2 => ∃ (i' b' st' : Int) (v : Option V), σ = [some (.ref p), some (.int lim), v, none, none] ∧ H2 = upd H p (pl sa (c' + 1) i' b' st') ∧ 0 ≤ i' ∧ i' ≤ (ns.length : Int) ∧ 0 ≤ b' ∧ 0 ≤ st' ∧ st' < 2147483629, ?_, ?_⟩
      · have hP : upd H p (pl sa (c' + 1) i b st) p = some (pl sa (c' + 1) i b st) := upd_same
        have hS : SqL K (upd H p (pl sa (c' + 1) i b st)) sa (ns.map V.int) := (hsa.gd (gd_pool hp)).seq
        refine ⟨_, rfl, p, _, 3, _, rfl, rfl, lst_of hP, atI3, rfl, _, rfl, ?_⟩
        refine ite2 (fun e1 => ?_) (fun e1 => ?_)
        · refine ⟨_, rfl, p, _, 2, _, rfl, rfl, lst_of hP, atI2, _, rfl, p, _, 0, _, rfl, rfl, lst_of hP, atI0, sa, _, rfl, .inl hS, i, _, rfl, rfl, _, rfl, ?_⟩
          refine ite2 (fun e2 => ?_) (fun e2 => ?_)
          · have hi : i < (ns.length : Int) := by
              have := of_decide_eq_true e2
              rw [List.length_map] at this
              exact this
            obtain ⟨j, rfl⟩ : ∃ j : Nat, i = (j : Int) := ⟨i.toNat, by omega⟩
            have hj : j < ns.length := by omega
            have hg : (ns.map V.int)[j]? = some (.int ns[j]) := by
              rw [List.getElem?_map, List.getElem?_eq_getElem hj]
              rfl
            -- cell = abs(pool[0][pool[2]])
            refine ⟨_, rfl, p, _, 0, _, rfl, rfl, lst_of hP, atI0, _, rfl, p, _, 2, _, rfl, rfl, lst_of hP, atI2, sa, _, (j : Int), _, rfl, rfl, hS, atI_nat hg, _, rfl, ?_⟩
            -- pool[2] = pool[2] + 1
            refine ⟨_, rfl, p, _, 2, _, rfl, rfl, lst_of hP, atI2, (j : Int), 1, rfl, rfl, _, rfl, p, _, 2, 2, rfl, rfl, hP, rfl, ?_⟩
            have hP2 : upd (upd H p (pl sa (c' + 1) (j : Int) b st)) p (pl sa (c' + 1) ((j : Int) + 1) b st) p = some (pl sa (c' + 1) ((j : Int) + 1) b st) := upd_same
            have c0' : 0 ≤ (if ns[j] < 0 then -ns[j] else ns[j]) := by split <;> omega
            refine ⟨_, rfl, _, 18, rfl, rfl, ⟨by decide, by decide, by decide⟩, _, _, rfl, rfl, _, rfl, ?_⟩
            refine ite2 (fun e3 => ?_) (fun e3 => ?_)
            · refine ⟨_, rfl, _, rfl, p, _, 3, 3, rfl, rfl, hP2, rfl, ?_⟩
              refine ⟨(j : Int) + 1, _, st, _, rfl, ?_, by omega, by omega, c0', s0, s1⟩
              rw [upd_upd, upd_upd]
              rfl
            · have hlt : (if ns[j] < 0 then -ns[j] else ns[j]) < 10 ^ (18 : Int).toNat := by
                refine Int.not_le.mp fun hh => e3 (decide_eq_true hh)
              refine ⟨_, rfl, p, _, 4, _, rfl, rfl, lst_of hP2, atI4, _, rfl, st, _, rfl, rfl, _, 1, rfl, rfl, _, 48271, rfl, rfl, .inr ⟨by decide, by decide⟩, .inl ⟨_, rfl, _, 2147483629, rfl, rfl, (by show (0 : Int) < 2147483629; decide), _, rfl, p, _, 4, 4, rfl, rfl, hP2, rfl, ?_⟩⟩
              refine ⟨(j : Int) + 1, b, ((st + if ns[j] < 0 then -ns[j] else ns[j]) + 1) * 48271 % 2147483629, _, rfl, ?_, by omega, by omega, b0, Int.emod_nonneg _ (by decide), Int.emod_lt_of_pos _ (by decide)⟩
              rw [upd_upd, upd_upd]
              rfl
          · exact ⟨i, b, st, _, rfl, rfl, i0, i1, b0, s0, s1⟩
        · exact ⟨i, b, st, _, rfl, rfl, i0, i1, b0, s0, s1⟩
      · rintro σ H2 ⟨i', b', st', v, rfl, rfl, i0', i1', b0', s0', s1'⟩
        have hP : upd H p (pl sa (c' + 1) i' b' st') p = some (pl sa (c' + 1) i' b' st') := upd_same
        have fin : ∀ (b'' : Int) (r : Int), 0 ≤ b'' → 0 ≤ r → r < lim → Q (.int r) (upd H p (pl sa (c' + 1) i' b'' st')) := fun b'' r hb hr0 hr1 =>
          k _ r (gd_pool hp) ⟨sa, ns, c' + 1, i', b'', st', hsa.gd (gd_pool hp), upd_same, by omega, by omega, i0', i1', hb, s0', s1'⟩ hr0 hr1
        refine ⟨_, rfl, p, _, 3, _, rfl, rfl, lst_of hP, atI3, b', 0, rfl, rfl, _, rfl, ?_⟩
        refine ite2 (fun e1 => ?_) (fun e1 => ?_)
        · refine ⟨_, rfl, p, _, 3, _, rfl, rfl, lst_of hP, atI3, .inl ⟨_, rfl, _, rfl, b', lim, rfl, rfl, l0, ?_⟩⟩
          refine ⟨_, rfl, p, _, 3, _, rfl, rfl, lst_of hP, atI3, _, rfl, b', lim, rfl, rfl, ⟨l0, ?_⟩, _, rfl, p, _, 3, 3, rfl, rfl, hP, rfl, _, rfl, ?_⟩
          · exact (wide_div (i := 0) (b := 200) l0 (by omega) (by decide) (by decide)).2
          · have := fin (b' / lim) (b' % lim) (Int.ediv_nonneg b0' (by omega)) (Int.emod_nonneg _ (by omega)) (Int.emod_lt_of_pos _ l0)
            rw [upd_upd]
            exact this
        · refine ⟨_, rfl, p, _, 4, _, rfl, rfl, lst_of hP, atI4, _, rfl, p, _, 1, _, rfl, rfl, lst_of hP, atI1, c' + 1, 7919, rfl, rfl, .inr ⟨by decide, by decide⟩, st', _, rfl, rfl, _, 3, rfl, rfl, ⟨by decide, by decide, ?_⟩, .inl ⟨_, rfl, _, 2147483647, rfl, rfl, (by show (0 : Int) < 2147483647; decide), ?_⟩⟩
          · unfold LIM at hc
            omega
          · refine ⟨_, rfl, _, 16, rfl, rfl, ⟨by decide, by decide⟩, .inl ⟨_, rfl, _, rfl, _, lim, rfl, rfl, l0, ?_⟩⟩
            exact fin b' _ b0' (Int.emod_nonneg _ (by omega)) (Int.emod_lt_of_pos _ l0)
def spQs (K : PySem.W.Frag) : Sp := fun vs H Q _ => ∃ (p : Addr) (c : Nat) (sp : Bool), vs = [.ref p, .bl sp] ∧ PoolOk K p c H ∧ c + 200 < LIM ∧
  ∀ H' D l, H D = none → Gd H H' → PoolOk K p (c + 200) H' → H' D = some (.lst (l.map V.int)) → l.length ≤ 12 → (∀ z ∈ l, Bd z) → (sp = false → Qn l) → Q (.ref D) H'
theorem at_int {l : List Int} {r : Int} (h0 : 0 ≤ r) (h1 : r < (l.length : Int)) : ∃ z, z ∈ l ∧ atI (l.map V.int) r = some (.int z) := by
  obtain ⟨j, rfl⟩ : ∃ j : Nat, r = (j : Int) := ⟨r.toNat, by omega⟩
  have hj : j < l.length := by omega
  exact ⟨l[j], List.getElem_mem hj, atI_nat (by rw [List.getElem?_map, List.getElem?_eq_getElem hj]; rfl)⟩
theorem ok_l_questions (T : Txt K mg a) : FnOk P w K mg base CX0 2 a.f_l_questions a.d_l_questions P_l_questions (spQs K) := by
  refine T.F_l_questions.ok sc_l_questions (fun vs H Q E h => ?_) (fun cdv A outer s H vs Q E hr h => ?_)
  · obtain ⟨p, c, sp, rfl, _⟩ := h
    rfl
  · obtain ⟨p, c, sp, rfl, hp, hc, k⟩ := h
    refine ⟨_, (pss_cons (ps_set (i := 2) sc_l_questions.nd rfl (Or.inl rfl) (pe_lst pa_nil))
  (pss_cons (ps_for PassesOwn.never rfl (pi_range1 (by rfl) T.z_range (pa_cons (pe_call (ok_l_draw T) (hr.mono (by decide)) (by rfl) T.g_l_draw T.k_l_draw T.b_l_draw .nil pass0 (pa_cons (pv 0) (pa_cons pe_int pa_nil))) pa_nil)) (pg_name (i := 3) sc_l_questions.nd rfl (Or.inl rfl))
    (Evl.pss_cut (ps_set (i := 4) sc_l_questions.nd rfl (Or.inl rfl) (pe_call (ok_l_draw T) (hr.mono (by decide)) (by rfl) T.g_l_draw T.k_l_draw T.b_l_draw .nil pass0 (pa_cons (pv 0) (pa_cons pe_int pa_nil))))
  (Evl.pss_cut (ps_if (PW.pt (pw_and (pt_cmpR op_gt (pv 3) pe_int (nomark _)) (pw_and1 (pt_cmpR op_eq (pe_call (ok_l_draw T) (hr.mono (by decide)) (by rfl) T.g_l_draw T.k_l_draw T.b_l_draw .nil pass0 (pa_cons (pv 0) (pa_cons pe_int pa_nil))) pe_int (nomark _)))))
    (pss_one (ps_set (i := 4) sc_l_questions.nd rfl (Or.inl rfl) (pe_ix ix_list (pv 2) (pe_call (ok_l_draw T) (hr.mono (by decide)) (by rfl) T.g_l_draw T.k_l_draw T.b_l_draw .nil pass0 (pa_cons (pv 0) (pa_cons (pv 3) pa_nil))) (by intro _ _; rfl))))
    pss_nil)
  (Evl.pss_cut (ps_if (PW.pt (pw_and (pt_val (pv 1)) (pw_and1 (pt_cmpR op_eq (pe_call (ok_l_draw T) (hr.mono (by decide)) (by rfl) T.g_l_draw T.k_l_draw T.b_l_draw .nil pass0 (pa_cons (pv 0) (pa_cons pe_int pa_nil))) pe_int (nomark _)))))
    (pss_cons (ps_set (i := 5) sc_l_questions.nd rfl (Or.inl rfl) (pe_call (ok_l_draw T) (hr.mono (by decide)) (by rfl) T.g_l_draw T.k_l_draw T.b_l_draw .nil pass0 (pa_cons (pv 0) (pa_cons (pe_op op_pow pe_int pe_int) pa_nil))))
  (pss_one (ps_set (i := 4) sc_l_questions.nd rfl (Or.inl rfl) (pe_ix ix_list (pe_lst (pa_cons (pe_un un_neg pe_int) (pa_cons pe_int (pa_cons (pe_op op_sub (pe_un un_neg pe_int) (pv 5)) (pa_cons (pe_op op_add pe_int (pv 5)) pa_nil))))) (pe_call (ok_l_draw T) (hr.mono (by decide)) (by rfl) T.g_l_draw T.k_l_draw T.b_l_draw .nil pass0 (pa_cons (pv 0) (pa_cons pe_int pa_nil))) (by intro _ _; rfl)))))
    pss_nil)
  (pss_one (ps_expr (pe_bm PySem.F.plainAttrs_list PySem.F.slot_list_append PySem.F.type_list_append mt_append (pv 2) (pa_cons (pv 4) pa_nil))))))))
  (pss_one (ps_ret (pv 2))))), ?_⟩
    refine ⟨by show 0 ≤ sizeLine; decide, fun D nD => ?_⟩
    have e0 := same_upd nD (o := .lst [])
    refine ⟨_, rfl, p, c, 13, rfl, hp.same e0, by omega, by decide, by decide, fun H1 r g1 p1 r0 r1 => ⟨r, rfl, by omega, by omega, ?_⟩⟩
    refine for_range (lo := 0) (n := r.toNat) (fun i σ H2 => ∃ l v3 v4 v5, σ = [some (.ref p), some (.bl sp), some (.ref D), v3, v4, v5] ∧ H2 D = some (.lst (l.map V.int)) ∧ l.length = i ∧ (∀ z ∈ l, Bd z) ∧ (sp = false → Qn l) ∧ Gd H H2 ∧ PoolOk K p (c + 1 + 6 * i) H2)
      ⟨[], _, _, _, rfl, g1.1 _ _ (np_ints []) upd_same, rfl, fun _ h => (nomatch h), fun _ _ h => (nomatch h), e0.gd.trans g1, p1⟩ ?_ ?_
    · rintro i σ H2 hi ⟨l, v3, v4, v5, rfl, hD, hl, hb, hq, g2, p2⟩
      have e0 : (0 : Int) + ((i : Nat) : Int) = (i : Int) := Int.zero_add _
      rw [e0]
      refine ⟨fun σ H3 => ∃ z : Int, σ = [some (.ref p), some (.bl sp), some (.ref D), some (.int i), some (.int z), v5] ∧ 0 ≤ z ∧ z < 48 ∧ Gd H2 H3 ∧ PoolOk K p (c + 2 + 6 * i) H3, ?_, ?_⟩
      · exact ⟨_, rfl, p, _, 48, rfl, p2, by omega, by decide, by decide, fun H3 z g3 p3 z0 z1 => ⟨z, rfl, z0, z1, g3, p3.mono (by omega)⟩⟩
      rintro σ H3 ⟨z, rfl, z0, z1, g3, p3⟩
      have hD3 := g3.1 _ _ (np_ints l) hD
      have g23 := g2.trans g3
      clear g2 g3 p2 hD
      refine ⟨fun σ H4 => ∃ z : Int, σ = [some (.ref p), some (.bl sp), some (.ref D), some (.int i), some (.int z), v5] ∧ Bd z ∧ (sp = false → 0 ≤ z ∧ z < 48) ∧ Gd H3 H4 ∧ PoolOk K p (c + 4 + 6 * i) H4, ?_, ?_⟩
      · have self : ∃ z' : Int, [some (V.ref p), some (.bl sp), some (.ref D), some (.int i), some (.int z), v5] = [some (.ref p), some (.bl sp), some (.ref D), some (.int i), some (.int z'), v5] ∧ Bd z' ∧ (sp = false → 0 ≤ z' ∧ z' < 48) := ⟨z, rfl, Bd.small (by omega) (by omega), fun _ => ⟨z0, z1⟩⟩
        refine ⟨_, rfl, _, _, rfl, rfl, _, rfl, ite2 (fun e1 => ?_) (fun e1 => ?_)⟩
        · have hi0 := of_decide_eq_true e1
          have hi13 : (i : Int) < 13 := by omega
          refine ⟨_, rfl, p, _, 5, rfl, p3, by omega, by decide, by decide, fun H4 u g4 p4 u0 u1 => ⟨rfl, _, rfl, ite2 (fun e2 => ?_) (fun e2 => ?_)⟩⟩
          · refine ⟨_, rfl, _, rfl, _, rfl, p, _, (i : Int), rfl, p4, by omega, by omega, Int.lt_trans hi13 (by decide), fun H5 r' g5 p5 r0' r1' => ?_⟩
            have hD5 := (g4.trans g5).1 _ _ (np_ints l) hD3
            obtain ⟨y, hy, ay⟩ := at_int (l := l) r0' (by omega)
            exact ⟨D, _, _, _, rfl, rfl, lst_of hD5, ay, y, rfl, hb y hy, fun h => hq h y hy, g4.trans g5, p5.mono (by omega)⟩
          · obtain ⟨z', h1, h2, h3⟩ := self
            exact ⟨z', h1, h2, h3, g4, p4.mono (by omega)⟩
        · obtain ⟨z', h1, h2, h3⟩ := self
          exact ⟨z', h1, h2, h3, Gd.refl _, p3.mono (by omega)⟩
      rintro σ H4 ⟨z, rfl, bz, qz, g4, p4⟩
      have hD4 := g4.1 _ _ (np_ints l) hD3
      have g24 := g23.trans g4
      clear g23 g4 p3 hD3 z0 z1
      refine ⟨fun σ H5 => ∃ (z : Int) (v : Option V), σ = [some (.ref p), some (.bl sp), some (.ref D), some (.int i), some (.int z), v] ∧ Bd z ∧ (sp = false → 0 ≤ z ∧ z < 48) ∧ Gd H4 H5 ∧ PoolOk K p (c + 7 + 6 * i) H5, ?_, ?_⟩
      · refine ⟨_, rfl, _, rfl, ite2 (fun e1 => ?_) (fun e1 => ?_)⟩
        · subst e1
          refine ⟨_, rfl, p, _, 6, rfl, p4, by omega, by decide, by decide, fun H5 u g5 p5 u0 u1 => ⟨rfl, _, rfl, ite2 (fun e2 => ?_) (fun e2 => ?_)⟩⟩
          · refine ⟨_, rfl, _, 30, rfl, rfl, ⟨by decide, by decide, by decide⟩, p, _, _, rfl, p5, by omega, by show (0 : Int) < 10 ^ 30; decide, by show (10 : Int) ^ 30 < 2 ^ 200; decide, fun H6 far g6 p6 f0 f1 => ?_⟩
            have f1 : far < 10 ^ 30 := f1
            have f2 : far.natAbs + 60 < 2 ^ 400 := by
              have : far.natAbs + 60 < 10 ^ 31 := by omega
              exact Nat.lt_trans this (by decide +kernel)
            refine ⟨_, rfl, _, rfl, _, rfl, _, _, rfl, rfl, _, rfl, _, _, rfl, rfl, by show 4 ≤ sizeLine; decide, fun q nq => ?_⟩
            have e7 := same_upd nq (o := .lst [.int (-1), .int 48, .int (-1 - far), .int (48 + far)])
            refine ⟨_, rfl, p, _, 4, rfl, p6.same e7, by omega, by decide, by decide, fun H8 r' g8 p8 r0' r1' => ?_⟩
            have hq8 := g8.1 _ _ (np_ints [-1, 48, -1 - far, 48 + far]) (upd_same (H := H6) (a := q))
            obtain ⟨y, hy, ay⟩ := at_int (l := [-1, 48, -1 - far, 48 + far]) r0' r1'
            refine ⟨q, _, _, _, rfl, rfl, lst_of hq8, ay, y, _, rfl, ?_, fun h => (by cases h), (g5.trans g6).trans (e7.gd.trans g8), p8.mono (by omega)⟩
            unfold Bd
            have : y.natAbs ≤ far.natAbs + 59 := by
              rcases List.mem_cons.mp hy with h | h
              · omega
              rcases List.mem_cons.mp h with h | h
              · omega
              rcases List.mem_cons.mp h with h | h
              · omega
              have := List.mem_singleton.mp h
              omega
            exact Nat.lt_of_le_of_lt this (Nat.lt_of_succ_le (Nat.le_of_lt f2))
          · exact ⟨z, _, rfl, bz, qz, g5, p5.mono (by omega)⟩
        · exact ⟨z, _, rfl, bz, qz, Gd.refl _, p4.mono (by omega)⟩
      rintro σ H5 ⟨z, v, rfl, bz, qz, g5, p5⟩
      have hD5 := g5.1 _ _ (np_ints l) hD4
      refine ⟨_, rfl, .inl ⟨rfl, _, lst_of hD5⟩, _, rfl, D, _, _, rfl, rfl, hD5, by rw [List.length_map, sizeLine_eq]; omega, ?_⟩
      refine ⟨l ++ [z], _, _, _, rfl, by rw [upd_same, List.map_append]; rfl, by rw [List.length_append, hl]; rfl, ?_, ?_, (g24.trans g5).mut nD, (p5.mut hD5 (np_ints l)).mono (by omega)⟩
      · intro y hy
        rcases List.mem_append.mp hy with hy | hy
        · exact hb y hy
        · rw [List.mem_singleton.mp hy]; exact bz
      · exact fun h => qn_append (hq h) fun y hy => by rw [List.mem_singleton.mp hy]; exact qz h
    · rintro σ H2 ⟨l, v3, v4, v5, rfl, hD, hl, hb, hq, g2, p2⟩
      exact ⟨_, rfl, k H2 D l nD g2 (p2.mono (by omega)) hD (by omega) hb hq⟩
def spRights (K : PySem.W.Frag) : Sp := fun vs H Q _ => ∃ (q : Addr) (l : List Int), vs = [.ref q] ∧ SqL K H q (l.map V.int) ∧ ∀ H' t, Same H H' → H' t = some (.tup ((norm l).map V.int)) → Q (.ref t) H'
theorem ok_l_rights (T : Txt K mg a) : FnOk P w K mg base CX0 1 a.f_l_rights a.d_l_rights P_l_rights (spRights K) := by
  refine T.F_l_rights.ok sc_l_rights (fun vs H Q E h => ?_) (fun cdv A outer s H vs Q E hr h => ?_)
  · obtain ⟨q, l, rfl, _⟩ := h
    rfl
  · obtain ⟨q, l, rfl, hq, k⟩ := h
    refine ⟨_, (pss_one (ps_ret (pe_callTy call_tuple_of (by rfl) T.z_tuple (by decide +kernel) (pa_cons (pe_lc (own := [("_law_name", 1)]) (g := gName 1) (tt := (tTest (tOp (rIn K false) (tVar 1) (tVar 0)))) (te := (tVar 1)) rfl sc_l_rights.nd (pi_range1 (by rfl) T.z_range (pa_cons pe_int pa_nil)) (blkOk_by (N := N_l_rights) (sc := defScope s_l_rights) (by decide +kernel)) (fun _ _ _ _ _ => pg_name (i := 1) sc_l_rights.nd rfl (Or.inl rfl)) (fun _ _ _ _ _ => by exact (pts_one (pt_cmpR op_in_seq (pv 1) (pv 0) (by with_unfolding_all rfl)))) (fun _ _ _ _ _ => by exact (pv 1))) pa_nil)))), ?_⟩
    refine ⟨48, rfl, by decide, by decide, fun D nD => lcR_filter (n := 48) (fun x => decide (x ∈ l)) nD (by decide) (fun _ => rfl) ?_ ?_ ?_⟩
    · intro z hz H' e' R r
      exact ⟨_, rfl, _, rfl, in_k (.inl (e'.seq hq)) ⟨_, rfl, r⟩⟩
    · intro z hz H' e' R r
      exact ⟨_, rfl, r⟩
    · intro H1 e1 h1
      have h1 : H1 D = some (.lst ((norm l).map V.int)) := h1
      exact ⟨D, _, rfl, .inl ⟨lst_of h1, fun t nt => k _ t (e1.trans (same_upd nt)) upd_same⟩⟩
def spBuilt (K : PySem.W.Frag) (C : Addr) : Sp := fun vs H Q _ => ∃ (q : Addr) (l : List Int), vs = [.ref q] ∧ SqL K H q (l.map V.int) ∧ l.length ≤ 400 ∧ (∀ z ∈ l, Bd z) ∧
  (Qn l → ∀ H' t x, Same H H' → H' t = some (.tup [.str "pupil", .ref x, .bl true]) → PupAt C H' x l → Q (.ref t) H') ∧
  ∀ z, firstBad l = some z → ∀ H' t, Same H H' → H' t = some (.tup [.str "bad", .int z, .bl true]) → Q (.ref t) H'
theorem ok_l_built (T : Txt K mg a) : FnOk P w K mg base CX0 5 a.f_l_built a.d_l_built P_l_built (spBuilt K a.c_Pupil) := by
  refine T.F_l_built.ok sc_l_built (fun vs H Q E h => ?_) (fun cdv A outer s H vs Q E hr h => ?_)
  · obtain ⟨q, l, rfl, _⟩ := h
    rfl
  · obtain ⟨q, l, rfl, hq, hl, hb, k, kx⟩ := h
    refine ⟨_, (Evl.pss_cut (ps_set (i := 1) sc_l_built.nd rfl (Or.inl rfl) (pe_callTy call_list_of (by rfl) T.z_list (by decide +kernel) (pa_cons (pv 0) pa_nil)))
  (Evl.pss_cut (ps_try_as (i := 3) (tb := fun W => (tAsg (tMakeS a.c_Pupil (spInitX K a.c_Pupil a.c_BadQuestion) (WE W) (tCons (tVar 1) tNil)) (gName 2)))
    (ts := fun a0 cls d => (tRet (tTup (tCons (tC (.str "bad")) (tCons (tXf a0 cls d a.c_BadQuestion "number" (tVar 3)) (tCons (tCB (rIsD K cls d a0) (tCons (tVar 3) (tCons (tC (.ref a.c_TestError)) tNil))) tNil))))))
    rfl rfl sc_l_built.nd rfl rfl ⟨rfl, by decide, .inl T.g_BadQuestion⟩ takes0
    (fun W pn xe tk _ => by exact (pss_one (ps_set (i := 2) sc_l_built.nd rfl (Or.inl rfl) (pe_makeS T.mk_Pupil (ok_Pupil_init T) (hr.mono (by decide)) (by rfl) T.g_Pupil T.b_Pupil_init (fun σ => passAt tk σ) (pa_cons (pv 1) pa_nil)))))
    (fun a0 oe cls d pn hz hf => by exact (pss_one (ps_ret (pe_tup (pa_cons pe_str (pa_cons (pe_xf T.xf_BadQuestion T.nf_BadQuestion_number hz hf (pv 3)) (pa_cons (pe_callB (call_isD hz hf) (by rfl) T.z_isinstance (by decide +kernel) (pa_cons (pv 3) (pa_cons (pe_glob (v := .ref a.c_TestError) (by rfl) T.g_TestError rfl) pa_nil))) pa_nil))))))))
  (Evl.pss_cut (ps_expr (pe_bm PySem.F.plainAttrs_list PySem.F.slot_list_append PySem.F.type_list_append mt_append (pv 1) (pa_cons pe_int pa_nil)))
  (Evl.pss_cut (ps_asg pe_int (pg_sub (pv 1) pe_int set_list))
  (pss_one (ps_ret (pe_tup (pa_cons pe_str (pa_cons (pv 2) (pa_cons pe_bl pa_nil)))))))))), ?_⟩
    refine ⟨fun σ H1 => ∃ G, σ = [some (.ref q), some (.ref G), none, none] ∧ Same H H1 ∧ H1 G = some (.lst (l.map V.int)) ∧ H G = none, ?_, ?_⟩
    · exact ⟨_, rfl, q, _, rfl, .inl hq, fun G nG => ⟨G, rfl, same_upd nG, upd_same, nG⟩⟩
    rintro σ H1 ⟨G, rfl, e1, hG, nG⟩
    refine ⟨fun σ H2 => ∃ x, σ = [some (.ref q), some (.ref G), some (.ref x), none] ∧ Qn l ∧ Same H1 H2 ∧ PupAt a.c_Pupil H2 x l, ?_, ?_⟩
    · refine ⟨_, rfl, pupX_make (.inl (lst_of hG)) (by omega) hb (fun hn x H2 nx e2 px => ⟨x, rfl, hn, e2, px⟩) (fun z hz d H2 nd e2 hd => ⟨true, T.te_BadQuestion, fun _ a0 na => ?_, fun q => Bool.noConfusion q⟩)⟩
      refine ⟨_, rfl, rfl, rfl, d, _, _, rfl, hd, rfl, ?_⟩
      refine ⟨_, rfl, _, _, _, _, _, true, rfl, rfl, hd, T.ek_BadQuestion, rfl, .own _, T.kt_BadQuestion, ?_⟩
      exact ⟨by show 3 ≤ sizeLine; decide, fun t nt => kx z hz _ t ((e1.trans e2).trans (same_upd nt)) upd_same⟩
    rintro σ H2 ⟨x, rfl, hn, e2, px⟩
    have hG2 := e2 _ _ hG
    refine ⟨fun σ H3 => σ = [some (.ref q), some (.ref G), some (.ref x), none] ∧ H3 = upd H2 G (.lst ((l ++ [47]).map V.int)), ?_, ?_⟩
    · refine ⟨_, rfl, .inl ⟨rfl, _, lst_of hG2⟩, G, _, _, rfl, rfl, hG2, by rw [List.length_map, sizeLine_eq]; omega, rfl, ?_⟩
      rw [List.map_append]
      rfl
    rintro σ H3 ⟨rfl, rfl⟩
    have hG3 : upd H2 G (.lst ((l ++ [47]).map V.int)) G = some (.lst ((l ++ [47]).map V.int)) := upd_same
    refine ⟨fun σ H4 => ∃ ys : List V, σ = [some (.ref q), some (.ref G), some (.ref x), none] ∧ H4 = upd H2 G (.lst ys), ?_, ?_⟩
    · refine ⟨_, rfl, G, _, 0, 0, rfl, rfl, hG3, ?_, ?_⟩
      · unfold ixN
        rw [if_pos (by decide), if_pos (by rw [List.length_map, List.length_append, List.length_singleton]; omega)]
        rfl
      · exact ⟨_, rfl, by rw [upd_upd]⟩
    rintro σ H4 ⟨ys, rfl, rfl⟩
    refine ⟨_, rfl, by show 3 ≤ sizeLine; decide, fun t nt => ?_⟩
    exact k hn _ t x (((e1.trans e2).mut nG).trans (same_upd nt)) upd_same ((px.mut hG2).same (same_upd nt))
def spAdd (C : Addr) : Sp := fun vs H Q _ => ∃ (x : Addr) (p : List Int) (z : Int), vs = [.ref x, .int z] ∧ PupAt C H x p ∧ Bd z ∧
  ((0 ≤ z ∧ z < 48) → ∀ H' t, Same H H' → H' t = some (.tup ((norm (p ++ [z])).map V.int)) → Q (.ref t) H') ∧
  (¬ (0 ≤ z ∧ z < 48) → ∀ H' t, Same H H' → H' t = some (.tup [.str "bad", .int z]) → Q (.ref t) H')
theorem ok_l_added (T : Txt K mg a) : FnOk P w K mg base CX0 6 a.f_l_added a.d_l_added P_l_added (spAdd a.c_Pupil) := by
  refine T.F_l_added.ok sc_l_added (fun vs H Q E h => ?_) (fun cdv A outer s H vs Q E hr h => ?_)
  · obtain ⟨x, p, z, rfl, _⟩ := h
    rfl
  · obtain ⟨x, p, z, rfl, px, bz, k, kx⟩ := h
    refine ⟨_, (pss_one (ps_try_as (i := 2) (tb := fun W => (tRet (tFld K (tMethT a.c_Pupil "added" (spAddedX a.c_Pupil a.c_BadQuestion) (WE W) (tVar 0) (tCons (tVar 1) tNil)) "rights")))
    (ts := fun a0 cls d => (tRet (tTup (tCons (tC (.str "bad")) (tCons (tXf a0 cls d a.c_BadQuestion "number" (tVar 2)) tNil)))))
    rfl rfl sc_l_added.nd rfl rfl ⟨rfl, by decide, .inl T.g_BadQuestion⟩ takes0
    (fun W pn xe tk _ => by exact (pss_one (ps_ret (pe_fld (pe_methT (pv 0) T.cl_Pupil T.m_Pupil_added (ok_Pupil_added T) (hr.mono (by decide)) T.b_Pupil_added (fun σ => passAt tk σ) (pa_cons (pv 1) pa_nil)) (by rfl)))))
    (fun a0 oe cls d pn hz hf => by exact (pss_one (ps_ret (pe_tup (pa_cons pe_str (pa_cons (pe_xf T.xf_BadQuestion T.nf_BadQuestion_number hz hf (pv 2)) pa_nil)))))))), ?_⟩
    obtain ⟨dx, u, hx, _⟩ := id px
    refine ⟨_, rfl, x, dx, _, rfl, hx, rfl, _, rfl, x, p, z, rfl, px, bz, fun hz y H1 ny e1 py => ?_, fun hz d H1 nd e1 hd => ⟨true, T.te_BadQuestion, fun _ a0 na => ?_, fun q => Bool.noConfusion q⟩⟩
    · obtain ⟨dy, v, hy, hv⟩ := py
      exact ⟨y, _, dy, _, _, rfl, hy, T.cl_Pupil, T.nA_Pupil_rights, rfl, k hz H1 v e1 hv⟩
    · exact ⟨_, rfl, rfl, rfl, d, _, _, rfl, hd, rfl, by show 2 ≤ sizeLine; decide, fun t nt => kx hz _ t (e1.trans (same_upd nt)) upd_same⟩
theorem neD_bad {K : PySem.W.Frag} {H : Hp} {x y : Addr} {s : Str} {z : Int} {Q : VK} (h1 : SqT K H x [.str s, .int z]) (h2 : SqT K H y [.str s, .int z]) (q : Q (.bl false) H) (hs : PyData.strOk s = true := by decide +kernel) : rNeD K (.ref x) (.ref y) H Q := by
  refine ⟨_, _, .tup h1 (.cons (.str s) (.cons (.int z) .nil)), .tup h2 (.cons (.str s) (.cons (.int z) .nil)), ?_, ?_, ?_⟩
  · simp [SeqAt.shaped, PyData.canLay0, PyData.canLayAll0, PyData.depth, PyData.depthAll, hs]
  · simp [SeqAt.shaped, PyData.canLay0, PyData.canLayAll0, PyData.depth, PyData.depthAll, hs]
  · rw [show PyData.eqv (.tuple [.str s, .int z]) (.tuple [.str s, .int z]) = true by simp [PyData.eqv, PyData.eqvAll]]
    exact q
def spSame (K : PySem.W.Frag) (C : Addr) : Sp := fun vs H Q _ => ∃ (x q : Addr) (l : List Int), vs = [.ref x, .ref q] ∧ PupAt C H x l ∧ SqL K H q (l.map V.int) ∧ Qn l ∧ l.length ≤ 400 ∧ ∀ H', Same H H' → Q (.bl true) H'
theorem ok_l_same (T : Txt K mg a) : FnOk P w K mg base CX0 7 a.f_l_same a.d_l_same P_l_same (spSame K a.c_Pupil) := by
  refine T.F_l_same.ok sc_l_same (fun vs H Q E h => ?_) (fun cdv A outer s H vs Q E hr h => ?_)
  · obtain ⟨x, q, l, rfl, _⟩ := h
    rfl
  · obtain ⟨x, q, l, rfl, px, hq, hn, hl, k⟩ := h
    refine ⟨_, (Evl.pss_cut (ps_set (i := 2) sc_l_same.nd rfl (Or.inl rfl) (pe_call (ok_l_rights T) (hr.mono (by decide)) (by rfl) T.g_l_rights T.k_l_rights T.b_l_rights .nil pass0 (pa_cons (pv 1) pa_nil)))
  (Evl.pss_cut (ps_if (PW.pt (pw_or (pt_cmpR (op_neD hr.units) (pe_fld (pv 0) (by rfl)) (pv 2) (nomark _)) (pw_or1 (pt_cmpR op_ne (pe_callB (len_own (ok_Pupil_len T) (hr.mono (by decide)) T.s_Pupil_len T.i_Pupil_len T.b_Pupil_len pass0) (by rfl) T.z_len (by decide +kernel) (pa_cons (pv 0) pa_nil)) (pe_callB call_len_seq (by rfl) T.z_len (by decide +kernel) (pa_cons (pv 2) pa_nil)) (nomark _)))))
    (pss_one (ps_ret pe_bl))
    pss_nil)
  (Evl.pss_cut (ps_for PassesOwn.never rfl (pi_range2 (by rfl) T.z_range (pa_cons (pe_un un_neg pe_int) (pa_cons pe_int pa_nil))) (pg_name (i := 3) sc_l_same.nd rfl (Or.inl rfl))
    (pss_cons (ps_if (pt_cmpR op_ne (pe_cmpR (in_own (ok_Pupil_contains T) (hr.mono (by decide)) T.s_Pupil_contains T.i_Pupil_contains T.b_Pupil_contains pass0) (pv 3) (pv 0) (by with_unfolding_all rfl)) (pe_cmpR op_in_seq (pv 3) (pv 2) (by with_unfolding_all rfl)) (nomark _))
    (pss_one (ps_ret pe_bl))
    pss_nil)
  (Evl.pss_cut (ps_set (i := 4) sc_l_same.nd rfl (Or.inl rfl) (pe_tup (pa_cons pe_str (pa_cons (pv 3) pa_nil))))
  (Evl.pss_cut (ps_if (pt_chain op_le op_lt pe_int (pv 3) pe_int)
    (pss_one (ps_set (i := 4) sc_l_same.nd rfl (Or.inl rfl) (pe_call (ok_l_rights T) (hr.mono (by decide)) (by rfl) T.g_l_rights T.k_l_rights T.b_l_rights .nil pass0 (pa_cons (pe_op op_cat (pe_callTy call_list_of (by rfl) T.z_list (by decide +kernel) (pa_cons (pv 1) pa_nil)) (pe_lst (pa_cons (pv 3) pa_nil))) pa_nil))))
    pss_nil)
  (pss_one (ps_if (PW.pt (pw_or (pt_cmpR (op_neD hr.units) (pe_call (ok_l_added T) (hr.mono (by decide)) (by rfl) T.g_l_added T.k_l_added T.b_l_added .nil pass0 (pa_cons (pv 0) (pa_cons (pv 3) pa_nil))) (pv 4) (nomark _)) (pw_or1 (pt_cmpR (op_neD hr.units) (pe_fld (pv 0) (by rfl)) (pv 2) (nomark _)))))
    (pss_one (ps_ret pe_bl))
    pss_nil))))))
  (pss_one (ps_ret pe_bl))))), ?_⟩
    obtain ⟨dx, u, hx, hu⟩ := id px
    refine ⟨fun σ H1 => ∃ t, σ = [some (.ref x), some (.ref q), some (.ref t), none, none] ∧ Same H H1 ∧ H1 t = some (.tup ((norm l).map V.int)), ?_, ?_⟩
    · exact ⟨_, rfl, q, l, rfl, hq, fun H1 t e1 h1 => ⟨t, rfl, e1, h1⟩⟩
    rintro σ H1 ⟨t, rfl, e1, ht⟩
    refine ⟨fun σ H2 => σ = [some (.ref x), some (.ref q), some (.ref t), none, none] ∧ H2 = H1, ?_, ?_⟩
    · refine ⟨_, rfl, x, _, dx, _, _, rfl, e1 _ _ hx, T.cl_Pupil, T.nA_Pupil_rights, rfl, _, rfl, neD_tup (tup_of (e1 _ _ hu)) (tup_of ht) ⟨_, rfl, ?_⟩⟩
      rw [ne_false rfl]
      refine iteF ?_
      refine ⟨_, rfl, x, dx, _, rfl, e1 _ _ hx, x, l, rfl, px.same e1, _, rfl, by omega, by have := norm_len l; omega, ?_⟩
      refine ⟨_, rfl, t, _, rfl, .inr (tup_of ht), rfl, _, rfl, ?_⟩
      rw [List.length_map, show (!decide (V.int ((norm l).length : Nat) = V.int ((norm l).length : Nat))) = false by simp]
      exact iteF ⟨rfl, rfl⟩
    rintro σ H2 ⟨rfl, rfl⟩
    refine ⟨fun σ H3 => Same H2 H3, ?_, fun σ H3 e3 => k H3 (e1.trans e3)⟩
    refine ⟨_, rfl, -2, 51, rfl, by decide, ?_⟩
    refine for_range (lo := -2) (n := 53) (fun i σ H3 => ∃ v3 v4, σ = [some (.ref x), some (.ref q), some (.ref t), v3, v4] ∧ Same H2 H3) ⟨_, _, rfl, Same.refl _⟩ ?_ (fun σ H3 ⟨_, _, _, e⟩ => e)
    rintro i σ H3 hi ⟨v3, v4, rfl, e3⟩
    have z0 : (-1000 : Int) ≤ -2 + (i : Int) := by omega
    have z1 : -2 + (i : Int) < 1000 := by omega
    generalize -2 + (i : Int) = z at z0 z1 ⊢
    have e13 := e1.trans e3
    have px3 := px.same e13
    refine ⟨_, rfl, _, rfl, x, dx, _, rfl, e13 _ _ hx, x, l, z, rfl, px3, _, rfl, ?_⟩
    refine ⟨_, rfl, _, rfl, in_k (.inr (tup_of (e3 _ _ ht))) ?_⟩
    refine ⟨rfl, _, rfl, ?_⟩
    rw [dec_self]
    refine iteF ?_
    -- due
    refine ⟨fun σ H4 => ∃ w, σ = [some (.ref x), some (.ref q), some (.ref t), some (.int z), some (.ref w)] ∧ Same H3 H4 ∧ H4 w = some (.tup [.str "bad", .int z]), ?_, ?_⟩
    · exact ⟨_, rfl, by show 2 ≤ sizeLine; decide, fun w nw => ⟨w, rfl, same_upd nw, upd_same⟩⟩
    rintro σ H4 ⟨w, rfl, e4, hw⟩
    have e14 := e13.trans e4
    have hq4 := e14.seq hq
    refine ⟨fun σ H5 => ∃ w, σ = [some (.ref x), some (.ref q), some (.ref t), some (.int z), some (.ref w)] ∧ Same H4 H5 ∧ ((0 ≤ z ∧ z < 48) → H5 w = some (.tup ((norm (l ++ [z])).map V.int))) ∧ (¬ (0 ≤ z ∧ z < 48) → H5 w = some (.tup [.str "bad", .int z])), ?_, ?_⟩
    · refine ⟨_, rfl, _, _, rfl, rfl, _, rfl, ?_⟩
      by_cases h0 : (0 : Int) ≤ z
      · rw [decide_eq_true h0]
        refine iteT ⟨_, _, rfl, rfl, _, rfl, ite2 (fun h1 => ?_) (fun h1 => ?_)⟩
        · have h1 : z < 48 := of_decide_eq_true h1
          refine ⟨_, rfl, q, _, rfl, .inl hq4, fun g ng => ?_⟩
          have e5 := same_upd ng (o := .lst (l.map V.int))
          refine ⟨_, rfl, by show 1 ≤ sizeLine; decide, fun m nm => ?_⟩
          have e6 := same_upd nm (o := .lst [.int z])
          refine ⟨g, m, _, _, rfl, rfl, e6 _ _ upd_same, upd_same, by rw [List.length_map, sizeLine_eq]; show _ + 1 ≤ _; omega, fun p np => ?_⟩
          refine ⟨p, l ++ [z], rfl, lst_of (by rw [upd_same, List.map_append]; rfl), fun H5 w2 e7 hw2 => ?_⟩
          exact ⟨w2, rfl, ((e5.trans e6).trans (same_upd np)).trans e7, fun _ => hw2, fun hh => absurd ⟨h0, h1⟩ hh⟩
        · have h1 : ¬ z < 48 := fun hh => h1 (decide_eq_true hh)
          exact ⟨w, rfl, Same.refl _, fun hh => absurd hh.2 h1, fun _ => hw⟩
      · rw [decide_eq_false h0]
        exact iteF ⟨_, rfl, iteF ⟨w, rfl, Same.refl _, fun hh => absurd hh.1 h0, fun _ => hw⟩⟩
    rintro σ H5 ⟨w, rfl, e5, hwg, hwb⟩
    have e15 := e14.trans e5
    have e25 := e3.trans (e4.trans e5)
    have last : ∀ H6, Same H5 H6 → Same H2 H6 ∧ H6 x = some (.ins a.c_Pupil dx [("rights", .ref u)]) ∧ H6 u = some (.tup ((norm l).map V.int)) ∧ H6 t = some (.tup ((norm l).map V.int)) := fun H6 e6 =>
      ⟨e25.trans e6, (e15.trans e6) _ _ hx, (e15.trans e6) _ _ hu, (e25.trans e6) _ _ ht⟩
    refine ⟨_, rfl, _, rfl, x, l, z, rfl, px.same e15, Bd.small z0 z1, fun hz H6 r e6 hr => ?_, fun hz H6 r e6 hr => ?_⟩
    · obtain ⟨f1, f2, f3, f4⟩ := last H6 e6
      refine ⟨_, rfl, neD_tup (tup_of hr) (tup_of (e6 _ _ (hwg hz))) ⟨_, rfl, ?_⟩⟩
      rw [ne_false rfl]
      refine iteF ?_
      refine ⟨_, rfl, x, _, dx, _, _, rfl, f2, T.cl_Pupil, T.nA_Pupil_rights, rfl, _, rfl, neD_tup (tup_of f3) (tup_of f4) ⟨_, rfl, ?_⟩⟩
      rw [ne_false rfl]
      exact iteF ⟨_, _, rfl, f1⟩
    · obtain ⟨f1, f2, f3, f4⟩ := last H6 e6
      refine ⟨_, rfl, neD_bad (tup_of hr) (tup_of (e6 _ _ (hwb hz))) ⟨_, rfl, ?_⟩⟩
      refine iteF ?_
      refine ⟨_, rfl, x, _, dx, _, _, rfl, f2, T.cl_Pupil, T.nA_Pupil_rights, rfl, _, rfl, neD_tup (tup_of f3) (tup_of f4) ⟨_, rfl, ?_⟩⟩
      rw [ne_false rfl]
      exact iteF ⟨_, _, rfl, f1⟩
def sp_law (K : PySem.W.Frag) : Sp := fun vs H Q _ => ∃ (x : Addr) (ns : List Int), vs = [.ref x] ∧ ScrAt K H x (ns.map V.int) ∧ ns.length ≤ 63 ∧ ∀ H', Q (.bl true) H'
def bad (k : Int) : Bool := !decide (0 ≤ k ∧ k < 48)
theorem bad_nil {l : List Int} (h : Qn l) : l.filter bad = [] := by
  rw [List.filter_eq_nil_iff]
  intro x hx hb
  unfold bad at hb
  rw [decide_eq_true (h x hx)] at hb
  cases hb
theorem nil_good {l : List Int} (h : l.filter bad = []) : Qn l := by
  rw [List.filter_eq_nil_iff] at h
  intro x hx
  have := h x hx
  unfold bad at this
  by_cases hh : 0 ≤ x ∧ x < 48
  · exact hh
  · rw [decide_eq_false hh] at this
    exact absurd rfl this
theorem bad_head {l : List Int} {z : Int} (h : firstBad l = some z) : ∃ r, l.filter bad = z :: r := by
  have e : (l.filter bad).head? = some z := by rw [List.head?_filter]; exact h
  cases hf : l.filter bad with
  | nil => rw [hf] at e; cases e
  | cons y r =>
    rw [hf] at e
    obtain rfl := Option.some.inj e
    exact ⟨r, rfl⟩
theorem cut1 (l : List Int) : cutV (l.map V.int) (some 1) none = (l.drop (min 1 l.length)).map V.int := by
  unfold cutV HT.sIx
  simp only [List.length_map]
  rw [if_neg (by decide), List.map_drop]
  show List.take (l.length - min 1 l.length) (List.drop (min 1 l.length) (l.map V.int)) = _
  exact List.take_of_length_le (by rw [List.length_drop, List.length_map]; exact Nat.le_refl _)
theorem qn_sub {l m : List Int} (h : ∀ x ∈ m, x ∈ l) (q : Qn l) : Qn m := fun x hx => q x (h x hx)
theorem ok_law (T : Txt K mg a) : FnOk P w K mg base CX0 8 a.f_law a.d_law P_law (sp_law K) := by
  refine T.F_law.ok sc_law (fun vs H Q E h => ?_) (fun cdv A outer s H vs Q E hr h => ?_)
  · obtain ⟨x, ns, rfl, _⟩ := h
    rfl
  · obtain ⟨sx, ns, rfl, hx, hl, k⟩ := h
    refine ⟨_, (Evl.pss_cut (ps_set (i := 1) sc_law.nd rfl (Or.inl rfl) (pe_call (ok_l_pool T) (hr.mono (by decide)) (by rfl) T.g_l_pool T.k_l_pool T.b_l_pool .nil pass0 (pa_cons (pv 0) pa_nil)))
  (Evl.pss_cut (ps_set (i := 2) sc_law.nd rfl (Or.inl rfl) (pe_call (ok_l_questions T) (hr.mono (by decide)) (by rfl) T.g_l_questions T.k_l_questions T.b_l_questions .nil pass0 (pa_cons (pv 1) (pa_cons (pe_cmpR op_eq (pe_call (ok_l_draw T) (hr.mono (by decide)) (by rfl) T.g_l_draw T.k_l_draw T.b_l_draw .nil pass0 (pa_cons (pv 1) (pa_cons pe_int pa_nil))) pe_int (nomark _)) pa_nil))))
  (Evl.pss_cut (ps_setLc (i := 3) (own := [("_law_number", 7)]) (g := gName 7) (tt := (tNot (tTest (tChain (rI0 fun i j => .bl (decide (i ≤ j))) (rI0 fun i j => .bl (decide (i < j))) (tC (.int 0)) (tVar 7) (tC (.int 48)))))) (te := (tVar 7)) rfl sc_law.nd rfl rfl (sw_true rfl rfl rfl (by decide +kernel)) (pi_list (pv 2)) (blkOk_by (N := N_law) (sc := defScope s_law) (by decide +kernel)) (fun _ _ _ _ _ => pg_name (i := 7) sc_law.nd rfl (Or.inl rfl)) (fun _ _ _ _ _ => by exact (pts_one (pt_not (pt_chain op_le op_lt pe_int (pv 7) pe_int)))) (fun _ _ _ _ _ => by exact (pv 7)))
  (Evl.pss_cut (ps_set (i := 4) sc_law.nd rfl (Or.inl rfl) (pe_call (ok_l_built T) (hr.mono (by decide)) (by rfl) T.g_l_built T.k_l_built T.b_l_built .nil pass0 (pa_cons (pv 2) pa_nil)))
  (Evl.pss_cut (ps_if (pt_cmpR (op_neD hr.units) (pv 3) (pe_lst pa_nil) (nomark _))
    (pss_one (ps_ret (pe_and (pe_cmpR op_eq (pe_ix ix_tup (pv 4) pe_int (by intro _ _; rfl)) pe_str (nomark _)) (pe_and (pe_cmpR op_eq (pe_ix ix_tup (pv 4) pe_int (by intro _ _; rfl)) (pe_ix ix_list (pv 3) pe_int (by intro _ _; rfl)) (nomark _)) (pe_one (pe_ix ix_tup (pv 4) pe_int (by intro _ _; rfl)))))))
    pss_nil)
  (Evl.pss_cut (ps_if (PW.pt (pw_or (pt_cmpR op_ne (pe_ix ix_tup (pv 4) pe_int (by intro _ _; rfl)) pe_str (nomark _)) (pw_or1 (pt_not (pt_val (pe_call (ok_l_same T) (hr.mono (by decide)) (by rfl) T.g_l_same T.k_l_same T.b_l_same .nil pass0 (pa_cons (pe_ix ix_tup (pv 4) pe_int (by intro _ _; rfl)) (pa_cons (pv 2) pa_nil))))))))
    (pss_one (ps_ret pe_bl))
    pss_nil)
  (Evl.pss_cut (ps_set (i := 5) sc_law.nd rfl (Or.inl rfl) (pe_call (ok_l_questions T) (hr.mono (by decide)) (by rfl) T.g_l_questions T.k_l_questions T.b_l_questions .nil pass0 (pa_cons (pv 1) (pa_cons pe_bl pa_nil))))
  (Evl.pss_cut (ps_for PassesOwn.never rfl (pi_list (pe_lst (pa_cons (pv 5) (pa_cons (pe_op op_cat (pv 2) (pv 5)) (pa_cons (pv 2) (pa_cons (pe_slice sl_list (pv 2) (po_some pe_int) po_none) (pa_cons (pe_op op_cat (pe_revL (pv 2)) (pv 2)) pa_nil))))))) (pg_name (i := 6) sc_law.nd rfl (Or.inl rfl))
    (pss_one (ps_if (pt_cmpR op_ne (pe_cmpR (cmp_own (ok_Pupil_eq T) (hr.mono (by decide)) T.s_Pupil_eq T.i_Pupil_eq T.b_Pupil_eq pass0) (pe_ix ix_tup (pv 4) pe_int (by intro _ _; rfl)) (pe_make T.mk_Pupil (ok_Pupil_init T) (hr.mono (by decide)) (by rfl) T.g_Pupil T.b_Pupil_init .nil passL (pa_cons (pe_callTy call_tuple_of (by rfl) T.z_tuple (by decide +kernel) (pa_cons (pv 6) pa_nil)) pa_nil)) (nomark _)) (pe_cmpR (op_eqD hr.units) (pe_call (ok_l_rights T) (hr.mono (by decide)) (by rfl) T.g_l_rights T.k_l_rights T.b_l_rights .nil pass0 (pa_cons (pv 6) pa_nil)) (pe_call (ok_l_rights T) (hr.mono (by decide)) (by rfl) T.g_l_rights T.k_l_rights T.b_l_rights .nil pass0 (pa_cons (pv 2) pa_nil)) (nomark _)) (nomark _))
    (pss_one (ps_ret pe_bl))
    pss_nil)))
  (pss_one (ps_ret (pe_and (pe_cmpR (op_eqD hr.units) (pe_fld (pe_make T.mk_Pupil (ok_Pupil_init T) (hr.mono (by decide)) (by rfl) T.g_Pupil T.b_Pupil_init .nil passL (pa_cons (pe_lst pa_nil) pa_nil)) (by rfl)) (pe_tup pa_nil) (nomark _)) (pe_one (pe_not (pe_cmpR (in_own (ok_Pupil_contains T) (hr.mono (by decide)) T.s_Pupil_contains T.i_Pupil_contains T.b_Pupil_contains pass0) pe_int (pe_make T.mk_Pupil (ok_Pupil_init T) (hr.mono (by decide)) (by rfl) T.g_Pupil T.b_Pupil_init .nil passL (pa_cons (pe_tup pa_nil) pa_nil)) (by with_unfolding_all rfl))))))))))))))), ?_⟩
    refine ⟨fun σ H1 => ∃ p, σ = [some (.ref sx), some (.ref p), none, none, none, none, none, none] ∧ PoolOk K p 0 H1, ?_, ?_⟩
    · exact ⟨_, rfl, sx, ns, rfl, hx, fun p H1 np e1 hp => ⟨p, rfl, hp⟩⟩
    rintro σ H1 ⟨p, rfl, hp⟩
    -- the questions
    refine ⟨fun σ H2 => ∃ (q : Addr) (l : List Int), σ = [some (.ref sx), some (.ref p), some (.ref q), none, none, none, none, none] ∧ PoolOk K p 201 H2 ∧ H2 q = some (.lst (l.map V.int)) ∧ l.length ≤ 12 ∧ ∀ z ∈ l, Bd z, ?_, ?_⟩
    · refine ⟨_, rfl, _, rfl, p, 0, 2, rfl, hp, by decide, by decide, by decide, fun H2 r g2 p2 r0 r1 => ⟨rfl, ?_⟩⟩
      exact ⟨p, 1, _, rfl, p2, by decide, fun H3 D l nD g3 p3 hD hl hb _ => ⟨D, l, rfl, p3.mono (by omega), hD, hl, hb⟩⟩
    rintro σ H2 ⟨q, l, rfl, p2, hq, hlen, hb⟩
    -- the wrong ones
    refine ⟨fun σ H3 => ∃ wl, σ = [some (.ref sx), some (.ref p), some (.ref q), some (.ref wl), none, none, none, none] ∧ Same H2 H3 ∧ H3 wl = some (.lst ((l.filter bad).map V.int)), ?_, ?_⟩
    · refine ⟨_, rfl, q, rfl, ⟨_, lst_of hq⟩, fun D nD => lcL_filter (K := K) (ns := l) bad (lst_of hq) nD (by omega) (fun _ => rfl) ?_ ?_ ?_⟩
      · intro z hz H' e' R r
        unfold bad at r
        refine ⟨_, rfl, _, _, rfl, rfl, _, rfl, ?_⟩
        by_cases h0 : (0 : Int) ≤ z
        · rw [decide_eq_true h0]
          refine iteT ⟨_, _, rfl, rfl, _, rfl, ?_⟩
          rw [show decide (0 ≤ z ∧ z < 48) = decide (z < 48) by rw [Bool.eq_iff_iff]; simp [h0]] at r
          exact r
        · rw [decide_eq_false h0]
          refine iteF ⟨_, rfl, ?_⟩
          rw [show decide (0 ≤ z ∧ z < 48) = false by simp [h0]] at r
          exact r
      · intro z hz H' e' R r
        exact ⟨_, rfl, r⟩
      · intro H3 e3 h3
        exact ⟨D, rfl, e3, h3⟩
    rintro σ H3 ⟨wl, rfl, e3, hwl⟩
    have hq3 := e3 _ _ hq
    have p3 := p2.same e3
    -- told
    refine ⟨fun σ H4 => ∃ t, σ = [some (.ref sx), some (.ref p), some (.ref q), some (.ref wl), some (.ref t), none, none, none] ∧ Same H3 H4 ∧ ((Qn l ∧ ∃ x, H4 t = some (.tup [.str "pupil", .ref x, .bl true]) ∧ PupAt a.c_Pupil H4 x l) ∨ ∃ z, firstBad l = some z ∧ H4 t = some (.tup [.str "bad", .int z, .bl true])), ?_, ?_⟩
    · exact ⟨_, rfl, q, l, rfl, lst_of hq3, by omega, hb, fun hn H4 t x e4 h4 px => ⟨t, rfl, e4, .inl ⟨hn, x, h4, px⟩⟩, fun z hz H4 t e4 h4 => ⟨t, rfl, e4, .inr ⟨z, hz, h4⟩⟩⟩
    rintro σ H4 ⟨t, rfl, e4, ht⟩
    have hwl4 := e4 _ _ hwl
    have hq4 := e4 _ _ hq3
    have p4 := p3.same e4
    -- the wrong ones are told
    refine ⟨fun σ H5 => ∃ x, σ = [some (.ref sx), some (.ref p), some (.ref q), some (.ref wl), some (.ref t), none, none, none] ∧ Same H4 H5 ∧ Qn l ∧ H5 t = some (.tup [.str "pupil", .ref x, .bl true]) ∧ PupAt a.c_Pupil H5 x l, ?_, ?_⟩
    · refine ⟨_, rfl, by show 0 ≤ sizeLine; decide, fun e ne => ?_⟩
      have e5 := same_upd ne (o := .lst [])
      refine neD_lst (ns := l.filter bad) (ms := []) (lst_of (e5 _ _ hwl4)) (lst_of upd_same) ⟨_, rfl, ?_⟩
      rcases ht with ⟨hn, x, ht, px⟩ | ⟨z, hz, ht⟩
      · rw [bad_nil hn]
        exact iteF ⟨x, rfl, e5, hn, e5 _ _ ht, px.same e5⟩
      · obtain ⟨r, er⟩ := bad_head hz
        have hwl5 := e5 _ _ hwl4
        rw [er] at hwl5 ⊢
        refine iteT ?_
        refine ⟨_, rfl, t, _, 0, _, rfl, rfl, tup_of (e5 _ _ ht), atI0, rfl, _, rfl, ite2 (fun _ => ?_) (fun h => absurd (decide_eq_true rfl) h)⟩
        refine ⟨_, rfl, t, _, 1, _, rfl, rfl, tup_of (e5 _ _ ht), atI1, _, rfl, wl, _, 0, _, rfl, rfl, lst_of hwl5, atI0, rfl, _, rfl, ite2 (fun _ => ?_) (fun h => absurd (decide_eq_true rfl) h)⟩
        exact ⟨_, rfl, t, _, 2, _, rfl, rfl, tup_of (e5 _ _ ht), atI2, k _⟩
    rintro σ H5 ⟨x, rfl, e5, hn, ht, px⟩
    have hq5 := e5 _ _ hq4
    have p5 := p4.same e5
    -- the pupil is told
    refine ⟨fun σ H6 => σ = [some (.ref sx), some (.ref p), some (.ref q), some (.ref wl), some (.ref t), none, none, none] ∧ Same H5 H6, ?_, ?_⟩
    · refine ⟨_, rfl, t, _, 0, _, rfl, rfl, tup_of ht, atI0, rfl, _, rfl, ?_⟩
      rw [show (!decide (V.str "pupil" = V.str "pupil")) = false by simp]
      refine iteF ?_
      exact ⟨_, rfl, t, _, 1, _, rfl, rfl, tup_of ht, atI1, _, rfl, x, q, l, rfl, px, lst_of hq5, hn, by omega, fun H6 e6 => ⟨_, rfl, iteF ⟨rfl, e6⟩⟩⟩
    rintro σ H6 ⟨rfl, e6⟩
    -- others
    refine ⟨fun σ H7 => ∃ (D : Addr) (m : List Int), σ = [some (.ref sx), some (.ref p), some (.ref q), some (.ref wl), some (.ref t), some (.ref D), none, none] ∧ Gd H6 H7 ∧ H7 D = some (.lst (m.map V.int)) ∧ m.length ≤ 12 ∧ Qn m, ?_, ?_⟩
    · exact ⟨_, rfl, p, 201, false, rfl, p5.same e6, by decide, fun H7 D m nD g7 p7 hD hm hb hq => ⟨D, m, rfl, g7, hD, hm, hq rfl⟩⟩
    rintro σ H7 ⟨D, m, rfl, g7, hD, hm, hnm⟩
    have g57 := e6.gd.trans g7
    have hq7 := g57.1 _ _ (np_ints _) hq5
    have ht7 := g57.1 _ _ (np_tup _) ht
    have px7 := px.gd g57
    refine ⟨fun σ H8 => ∃ v, σ = [some (.ref sx), some (.ref p), some (.ref q), some (.ref wl), some (.ref t), some (.ref D), v, none], ?_, ?_⟩
    · refine ⟨_, rfl, _, rfl, _, rfl, q, D, _, _, rfl, rfl, hq7, hD, by rw [List.length_map, List.length_map, sizeLine_eq]; omega, fun c1 n1 => ?_⟩
      have f1 := same_upd n1 (o := .lst (l.map V.int ++ m.map V.int))
      refine ⟨_, rfl, _, rfl, _, rfl, q, _, rfl, lst_of (f1 _ _ hq7), fun c2 n2 => ?_⟩
      have f2 := same_upd n2 (o := .lst (cutV (l.map V.int) (some 1) none))
      refine ⟨_, rfl, q, _, rfl, lst_of (f2 _ _ (f1 _ _ hq7)), fun c3 n3 => ?_⟩
      have f3 := same_upd n3 (o := .lst (l.map V.int).reverse)
      have hq8 := f3 _ _ (f2 _ _ (f1 _ _ hq7))
      refine ⟨_, rfl, c3, q, _, _, rfl, rfl, upd_same, hq8, by rw [List.length_reverse, List.length_map, sizeLine_eq]; omega, fun c4 n4 => ?_⟩
      have f4 := same_upd n4 (o := .lst ((l.map V.int).reverse ++ l.map V.int))
      refine ⟨by show 5 ≤ sizeLine; decide, fun ml nml => ?_⟩
      have f5 := same_upd nml (o := .lst [.ref D, .ref c1, .ref q, .ref c2, .ref c4])
      have g1 := f2.trans (f3.trans (f4.trans f5))
      have hc1 := g1 _ _ (upd_same (H := H7) (a := c1) (o := .lst (l.map V.int ++ m.map V.int)))
      have hc2 := (f3.trans (f4.trans f5)) _ _ (upd_same (a := c2) (o := .lst (cutV (l.map V.int) (some 1) none)))
      have hc4 := f5 _ _ (upd_same (a := c4) (o := .lst ((l.map V.int).reverse ++ l.map V.int)))
      have hml : upd (upd (upd (upd (upd H7 c1 (.lst (l.map V.int ++ m.map V.int))) c2 (.lst (cutV (l.map V.int) (some 1) none))) c3 (.lst (l.map V.int).reverse)) c4 (.lst ((l.map V.int).reverse ++ l.map V.int))) ml (.lst [.ref D, .ref c1, .ref q, .ref c2, .ref c4]) ml = some (.lst [.ref D, .ref c1, .ref q, .ref c2, .ref c4]) := upd_same
      have hq9 := (f4.trans f5) _ _ hq8
      have hD9 := (f1.trans g1) _ _ hD
      have ht9 := (f1.trans g1) _ _ ht7
      have px9 := px7.same (f1.trans g1)
      have key : ∃ ms : List (Addr × List Int), [V.ref D, .ref c1, .ref q, .ref c2, .ref c4] = ms.map (fun y => V.ref y.1) ∧ ∀ y ∈ ms, upd (upd (upd (upd (upd H7 c1 (.lst (l.map V.int ++ m.map V.int))) c2 (.lst (cutV (l.map V.int) (some 1) none))) c3 (.lst (l.map V.int).reverse)) c4 (.lst ((l.map V.int).reverse ++ l.map V.int))) ml (.lst [.ref D, .ref c1, .ref q, .ref c2, .ref c4]) y.1 = some (.lst (y.2.map V.int)) ∧ Qn y.2 ∧ y.2.length ≤ 24 := by
        refine ⟨[(D, m), (c1, l ++ m), (q, l), (c2, l.drop (min 1 l.length)), (c4, l.reverse ++ l)], rfl, fun y hy => ?_⟩
        rcases List.mem_cons.mp hy with h | hy
        · rw [h]; exact ⟨hD9, hnm, by show m.length ≤ 24; omega⟩
        rcases List.mem_cons.mp hy with h | hy
        · rw [h]; exact ⟨by rw [List.map_append]; exact hc1, qn_append hn hnm, by rw [List.length_append]; omega⟩
        rcases List.mem_cons.mp hy with h | hy
        · rw [h]; exact ⟨hq9, hn, by show l.length ≤ 24; omega⟩
        rcases List.mem_cons.mp hy with h | hy
        · rw [h]; exact ⟨by rw [← cut1]; exact hc2, qn_sub (fun x hx => List.mem_of_mem_drop hx) hn, by rw [List.length_drop]; omega⟩
        rw [List.mem_singleton.mp hy]
        exact ⟨by rw [List.map_append, List.map_reverse]; exact hc4, qn_append (qn_sub (fun x hx => List.mem_reverse.mp hx) hn) hn, by rw [List.length_append, List.length_reverse]; omega⟩
      generalize upd (upd (upd (upd (upd H7 c1 (.lst (l.map V.int ++ m.map V.int))) c2 (.lst (cutV (l.map V.int) (some 1) none))) c3 (.lst (l.map V.int).reverse)) c4 (.lst ((l.map V.int).reverse ++ l.map V.int))) ml (.lst [.ref D, .ref c1, .ref q, .ref c2, .ref c4]) = H9 at key hml hq9 ht9 px9 ⊢
      clear hc1 hc2 hc4 hD9
      obtain ⟨ms, ems, hms⟩ := key
      rw [ems] at hml
      refine ⟨ml, rfl, ⟨_, lst_of hml⟩, for_list (K := K) (a := ml) (xs := ms.map (fun y => V.ref y.1)) (fun i σ H8 => ∃ v, σ = [some (.ref sx), some (.ref p), some (.ref q), some (.ref wl), some (.ref t), some (.ref D), v, none] ∧ Same H9 H8) ⟨_, rfl, Same.refl _⟩ (fun i σ H8 _ ⟨_, _, e⟩ => lst_of (e _ _ hml)) ?_ (fun σ H8 ⟨v, h, _⟩ => ⟨v, h⟩)⟩
      rintro i y σ H8 hi ⟨v, rfl, e8⟩
      obtain ⟨⟨b, n⟩, hbn, rfl⟩ : ∃ z, z ∈ ms ∧ y = V.ref z.1 := by
        obtain ⟨z, hz, e⟩ := List.mem_map.mp (List.mem_of_getElem? hi)
        exact ⟨z, hz, e.symm⟩
      obtain ⟨hb8, hnn, hnl⟩ := hms _ hbn
      have hnl : n.length ≤ 24 := hnl
      have hb8 : H8 b = some (.lst (n.map V.int)) := e8 _ _ hb8
      have hnn : Qn n := hnn
      refine ⟨_, rfl, t, _, 1, _, rfl, rfl, tup_of (e8 _ _ ht9), atI1, _, rfl, b, _, rfl, .inl ⟨lst_of hb8, fun tu ntu => ?_⟩⟩
      have e9 := same_upd ntu (o := .tup (n.map V.int))
      refine pupX_good (.inr (tup_of upd_same)) (by omega) hnn ?_
      intro y H10 ny e10 py
      have e810 := e9.trans e10
      refine own_rel ((px9.same e8).same e810) py ?_
      intro H11 e11
      have e811 := e810.trans e11
      refine ⟨_, rfl, b, n, rfl, lst_of (e811 _ _ hb8), fun H12 r1 e12 hr1 => ?_⟩
      refine ⟨_, rfl, q, l, rfl, lst_of ((e8.trans (e811.trans e12)) _ _ hq9), fun H13 r2 e13 hr2 => ?_⟩
      refine eqD_tup (tup_of (e13 _ _ hr1)) (tup_of hr2) ⟨rfl, _, rfl, ?_⟩
      have ee : fEq (norm l) (norm n) = decide (norm n = norm l) := by
        unfold fEq
        rw [Bool.eq_iff_iff, decide_eq_true_eq, decide_eq_true_eq]
        exact eq_comm
      rw [ee, dec_self]
      exact iteF ⟨_, rfl, e8.trans (e811.trans (e12.trans e13))⟩
    rintro σ H8 ⟨v, rfl⟩
    have n0 : norm [] = [] := by decide
    refine ⟨by show 0 ≤ sizeLine; decide, fun c nc => ?_⟩
    refine pupX_good (l := []) (.inl (lst_of upd_same)) (by decide) (fun _ h => (nomatch h)) ?_
    intro y H9 ny e9 py
    obtain ⟨dy, u, hy, hu⟩ := py
    refine ⟨y, _, dy, _, _, rfl, hy, T.cl_Pupil, T.nA_Pupil_rights, rfl, by show 0 ≤ sizeLine; decide, fun e ne => ?_⟩
    have e10 := same_upd ne (o := .tup [])
    refine eqD_tup (ns := norm []) (ms := []) (tup_of (e10 _ _ hu)) (tup_of upd_same) ⟨_, rfl, ite2 (fun _ => ?_) (fun h => absurd (decide_eq_true n0) h)⟩
    refine ⟨by show 0 ≤ sizeLine; decide, fun c nc => ?_⟩
    refine pupX_good (l := []) (.inr (tup_of upd_same)) (by decide) (fun _ h => (nomatch h)) ?_
    intro y2 H11 ny2 e11 py2
    obtain ⟨dy2, u2, hy2, hu2⟩ := id py2
    refine ⟨y2, dy2, _, rfl, hy2, y2, [], 0, rfl, py2, _, rfl, _, rfl, ?_⟩
    rw [n0]
    exact k _
end
theorem all_mk {l : PySem.W.OpenLaw} {w : World} {K : PySem.W.Frag} {h : Heap} {mg : Str → Option Value} {fa c_TestError c_BadQuestion c_Pupil f_BadQuestion_init f_is_question f_Pupil_init f_Pupil_contains f_Pupil_len f_Pupil_eq f_Pupil_added f_l_pool f_l_draw f_l_questions f_l_built f_l_added f_l_rights f_l_same f_law : Addr} (X : K.In h) (G : h.Ns mainGlobals mg) (hfa : mg "law" = some (.ref fa))
    {t_QUESTIONS : Tok}
    {od_BadQuestion_init an_BadQuestion_init od_is_question an_is_question od_Pupil_init an_Pupil_init od_Pupil_contains an_Pupil_contains od_Pupil_len an_Pupil_len od_Pupil_eq an_Pupil_eq od_Pupil_added an_Pupil_added od_l_pool an_l_pool od_l_draw an_l_draw od_l_questions an_l_questions od_l_built an_l_built od_l_added an_l_added od_l_rights an_l_rights od_l_same an_l_same od_law an_law : Option Addr}
    {sl_BadQuestion_init sl_is_question sl_Pupil_init sl_Pupil_contains sl_Pupil_len sl_Pupil_eq sl_Pupil_added sl_l_pool sl_l_draw sl_l_questions sl_l_built sl_l_added sl_l_rights sl_l_same sl_law : Array (Option Value)}
    {oc_BadQuestion_init kV_BadQuestion_init dc_BadQuestion_init pm_BadQuestion_init cd_BadQuestion_init ct_BadQuestion_init oc_is_question kV_is_question dc_is_question pm_is_question cd_is_question ct_is_question oc_Pupil_init kV_Pupil_init dc_Pupil_init pm_Pupil_init cd_Pupil_init ct_Pupil_init oc_Pupil_contains kV_Pupil_contains dc_Pupil_contains pm_Pupil_contains cd_Pupil_contains ct_Pupil_contains oc_Pupil_len kV_Pupil_len dc_Pupil_len pm_Pupil_len cd_Pupil_len ct_Pupil_len oc_Pupil_eq kV_Pupil_eq dc_Pupil_eq pm_Pupil_eq cd_Pupil_eq ct_Pupil_eq oc_Pupil_added kV_Pupil_added dc_Pupil_added pm_Pupil_added cd_Pupil_added ct_Pupil_added oc_l_pool kV_l_pool dc_l_pool pm_l_pool cd_l_pool ct_l_pool oc_l_draw kV_l_draw dc_l_draw pm_l_draw cd_l_draw ct_l_draw oc_l_questions kV_l_questions dc_l_questions pm_l_questions cd_l_questions ct_l_questions oc_l_built kV_l_built dc_l_built pm_l_built cd_l_built ct_l_built oc_l_added kV_l_added dc_l_added pm_l_added cd_l_added ct_l_added oc_l_rights kV_l_rights dc_l_rights pm_l_rights cd_l_rights ct_l_rights oc_l_same kV_l_same dc_l_same pm_l_same cd_l_same ct_l_same oc_law kV_law dc_law pm_law cd_law ct_law : Value}
    {nm_BadQuestion qn_BadQuestion : Str} {ns_BadQuestion : Addr} {bs_BadQuestion : List Value} {sn_BadQuestion : List Str} {sub_BadQuestion : List Value} {ab_BadQuestion : Bool} {col_BadQuestion : Option Bool} {dd_BadQuestion : Option Addr} {m0_BadQuestion m1_BadQuestion m2_BadQuestion m3_BadQuestion m5_BadQuestion : Option Value}
    (h_g_TestError : PySem.W.nsIn K mainGlobals "TestError" = some (some (.ref c_TestError)))
    (h_g_BadQuestion : PySem.W.nsIn K mainGlobals "BadQuestion" = some (some (.ref c_BadQuestion)))
    (h_g_Pupil : PySem.W.nsIn K mainGlobals "Pupil" = some (some (.ref c_Pupil)))
    (h_pg_Pupil : PySem.W.plainGet K c_Pupil Str.empty = true)
    (h_hd_Pupil : PySem.W.hasDictIn K c_Pupil = true)
    (h_po_Pupil : PySem.W.plainOver K c_Pupil = true)
    (h_sa_Pupil : PySem.W.findIn K (.ref c_Pupil) "__setattr__" = some (some (.builtin "object.__setattr__")))
    (h_mkk_Pupil : PySem.W.makesIn K c_Pupil = true)
    (h_kc_Pupil : PySem.W.keepIn K (.ref c_Pupil) = true)
    (h_nA_Pupil_rights : PySem.W.findIn K (.ref c_Pupil) "rights" = some none)
    (h_ic1_Pupil : PySem.W.findIn K (.ref c_Pupil) "__class__" = some (some (.builtin "object.__class__")))
    (h_ic2_Pupil : PySem.W.specialIn K (.builtin "object.__class__") "__get__" = some (some (.builtin "getset_descriptor.__get__")))
    (h_ic3_Pupil : PySem.W.takesIn K (.builtin "object.__class__") = some true)
    (h_ic4_Pupil : PySem.W.mroIn K c_Pupil (.type "object") = some true)
    (h_bga_TestError : PySem.W.specialIn K (.ref c_TestError) "__getattribute__" = some (some (.builtin "type.__getattribute__")))
    (h_ty_TestError : PySem.W.typeIn K (.ref c_TestError) = some (.type "type"))
    (h_brd_TestError : PySem.W.readsIn K c_TestError (.type "type") = true)
    (h_bfi_TestError : PySem.W.findCls K (.ref c_TestError) (.type "type") "__init__" = some (.val (.builtin "ValueError.__init__")))
    (h_xl_BadQuestion : K.lookup c_BadQuestion = some (excClassObj nm_BadQuestion qn_BadQuestion c_BadQuestion ns_BadQuestion bs_BadQuestion [.ref c_TestError, .type "ValueError", .type "Exception", .type "BaseException", .type "object"] true sn_BadQuestion sub_BadQuestion ab_BadQuestion col_BadQuestion dd_BadQuestion m0_BadQuestion m1_BadQuestion m2_BadQuestion m3_BadQuestion m5_BadQuestion "ValueError.__new__"))
    (h_sa_BadQuestion : PySem.W.findIn K (.ref c_BadQuestion) "__setattr__" = some (some (.builtin "object.__setattr__")))
    (h_eb_BadQuestion : PySem.W.subIn K (.ref c_BadQuestion) (.type "BaseException") = some true)
    (h_ty_BadQuestion : PySem.W.typeIn K (.ref c_BadQuestion) = some (.type "type"))
    (h_kc_BadQuestion : PySem.W.keepIn K (.ref c_BadQuestion) = true)
    (h_ga_BadQuestion : PySem.W.findIn K (.ref c_BadQuestion) "__getattribute__" = some (some (.builtin "BaseException.__getattribute__")))
    (h_gg_BadQuestion : PySem.W.findIn K (.ref c_BadQuestion) "__getattr__" = some none)
    (h_hd_BadQuestion : PySem.W.hasDictIn K c_BadQuestion = true)
    (h_ss_BadQuestion : PySem.W.subIn K (.ref c_BadQuestion) (.ref c_BadQuestion) = some true)
    (h_ic1_BadQuestion : PySem.W.findIn K (.ref c_BadQuestion) "__class__" = some (some (.builtin "object.__class__")))
    (h_eg2 : PySem.W.specialIn K (.builtin "object.__class__") "__get__" = some (some (.builtin "getset_descriptor.__get__")))
    (h_eg3 : PySem.W.takesIn K (.builtin "object.__class__") = some true)
    (h_ic4_BadQuestion : PySem.W.mroIn K c_BadQuestion (.type "object") = some true)
    (h_nf_BadQuestion_number : PySem.W.findIn K (.ref c_BadQuestion) "number" = some none)
    (h_sb_BadQuestion : PySem.W.subIn K (.ref c_BadQuestion) (.ref c_TestError) = some true)
    (h_icl_TestError : PySem.W.isClsIn K c_TestError = true)
    (h_a_BadQuestion_init : PySem.W.findIn K (.ref c_BadQuestion) "__init__" = some (some (.ref f_BadQuestion_init)))
    (h_i_BadQuestion_init : PySem.W.isFn K (.ref f_BadQuestion_init) = true)
    (h_l_BadQuestion_init : K.lookup f_BadQuestion_init = some ⟨oc_BadQuestion_init, od_BadQuestion_init, .func (PySem.W.fnOf "__init__" "BadQuestion.__init__" (defArgs s_BadQuestion_init) (defBody s_BadQuestion_init) (defScope s_BadQuestion_init) .none kV_BadQuestion_init dc_BadQuestion_init pm_BadQuestion_init an_BadQuestion_init cd_BadQuestion_init ct_BadQuestion_init), sl_BadQuestion_init⟩)
    (h_c_BadQuestion_init : PySem.W.codeIn K cd_BadQuestion_init "BadQuestion.__init__" = true)
    (h_k_BadQuestion_init : PySem.W.keepIn K (.ref f_BadQuestion_init) = true)
    (h_a_is_question : PySem.W.nsIn K mainGlobals "is_question" = some (some (.ref f_is_question)))
    (h_l_is_question : K.lookup f_is_question = some ⟨oc_is_question, od_is_question, .func (PySem.W.fnOf "is_question" "is_question" (defArgs s_is_question) (defBody s_is_question) (defScope s_is_question) .none kV_is_question dc_is_question pm_is_question an_is_question cd_is_question ct_is_question), sl_is_question⟩)
    (h_c_is_question : PySem.W.codeIn K cd_is_question "is_question" = true)
    (h_k_is_question : PySem.W.keepIn K (.ref f_is_question) = true)
    (h_a_Pupil_init : PySem.W.findIn K (.ref c_Pupil) "__init__" = some (some (.ref f_Pupil_init)))
    (h_i_Pupil_init : PySem.W.isFn K (.ref f_Pupil_init) = true)
    (h_l_Pupil_init : K.lookup f_Pupil_init = some ⟨oc_Pupil_init, od_Pupil_init, .func (PySem.W.fnOf "__init__" "Pupil.__init__" (defArgs s_Pupil_init) (defBody s_Pupil_init) (defScope s_Pupil_init) .none kV_Pupil_init dc_Pupil_init pm_Pupil_init an_Pupil_init cd_Pupil_init ct_Pupil_init), sl_Pupil_init⟩)
    (h_c_Pupil_init : PySem.W.codeIn K cd_Pupil_init "Pupil.__init__" = true)
    (h_k_Pupil_init : PySem.W.keepIn K (.ref f_Pupil_init) = true)
    (h_a_Pupil_contains : PySem.W.findIn K (.ref c_Pupil) "__contains__" = some (some (.ref f_Pupil_contains)))
    (h_i_Pupil_contains : PySem.W.isFn K (.ref f_Pupil_contains) = true)
    (h_l_Pupil_contains : K.lookup f_Pupil_contains = some ⟨oc_Pupil_contains, od_Pupil_contains, .func (PySem.W.fnOf "__contains__" "Pupil.__contains__" (defArgs s_Pupil_contains) (defBody s_Pupil_contains) (defScope s_Pupil_contains) .none kV_Pupil_contains dc_Pupil_contains pm_Pupil_contains an_Pupil_contains cd_Pupil_contains ct_Pupil_contains), sl_Pupil_contains⟩)
    (h_c_Pupil_contains : PySem.W.codeIn K cd_Pupil_contains "Pupil.__contains__" = true)
    (h_k_Pupil_contains : PySem.W.keepIn K (.ref f_Pupil_contains) = true)
    (h_a_Pupil_len : PySem.W.findIn K (.ref c_Pupil) "__len__" = some (some (.ref f_Pupil_len)))
    (h_i_Pupil_len : PySem.W.isFn K (.ref f_Pupil_len) = true)
    (h_l_Pupil_len : K.lookup f_Pupil_len = some ⟨oc_Pupil_len, od_Pupil_len, .func (PySem.W.fnOf "__len__" "Pupil.__len__" (defArgs s_Pupil_len) (defBody s_Pupil_len) (defScope s_Pupil_len) .none kV_Pupil_len dc_Pupil_len pm_Pupil_len an_Pupil_len cd_Pupil_len ct_Pupil_len), sl_Pupil_len⟩)
    (h_c_Pupil_len : PySem.W.codeIn K cd_Pupil_len "Pupil.__len__" = true)
    (h_k_Pupil_len : PySem.W.keepIn K (.ref f_Pupil_len) = true)
    (h_a_Pupil_eq : PySem.W.findIn K (.ref c_Pupil) "__eq__" = some (some (.ref f_Pupil_eq)))
    (h_i_Pupil_eq : PySem.W.isFn K (.ref f_Pupil_eq) = true)
    (h_l_Pupil_eq : K.lookup f_Pupil_eq = some ⟨oc_Pupil_eq, od_Pupil_eq, .func (PySem.W.fnOf "__eq__" "Pupil.__eq__" (defArgs s_Pupil_eq) (defBody s_Pupil_eq) (defScope s_Pupil_eq) .none kV_Pupil_eq dc_Pupil_eq pm_Pupil_eq an_Pupil_eq cd_Pupil_eq ct_Pupil_eq), sl_Pupil_eq⟩)
    (h_c_Pupil_eq : PySem.W.codeIn K cd_Pupil_eq "Pupil.__eq__" = true)
    (h_k_Pupil_eq : PySem.W.keepIn K (.ref f_Pupil_eq) = true)
    (h_a_Pupil_added : PySem.W.findIn K (.ref c_Pupil) "added" = some (some (.ref f_Pupil_added)))
    (h_i_Pupil_added : PySem.W.isFn K (.ref f_Pupil_added) = true)
    (h_l_Pupil_added : K.lookup f_Pupil_added = some ⟨oc_Pupil_added, od_Pupil_added, .func (PySem.W.fnOf "added" "Pupil.added" (defArgs s_Pupil_added) (defBody s_Pupil_added) (defScope s_Pupil_added) .none kV_Pupil_added dc_Pupil_added pm_Pupil_added an_Pupil_added cd_Pupil_added ct_Pupil_added), sl_Pupil_added⟩)
    (h_c_Pupil_added : PySem.W.codeIn K cd_Pupil_added "Pupil.added" = true)
    (h_k_Pupil_added : PySem.W.keepIn K (.ref f_Pupil_added) = true)
    (h_a_l_pool : PySem.W.nsIn K mainGlobals "_law_pool" = some (some (.ref f_l_pool)))
    (h_l_l_pool : K.lookup f_l_pool = some ⟨oc_l_pool, od_l_pool, .func (PySem.W.fnOf "_law_pool" "_law_pool" (defArgs s_l_pool) (defBody s_l_pool) (defScope s_l_pool) .none kV_l_pool dc_l_pool pm_l_pool an_l_pool cd_l_pool ct_l_pool), sl_l_pool⟩)
    (h_c_l_pool : PySem.W.codeIn K cd_l_pool "_law_pool" = true)
    (h_k_l_pool : PySem.W.keepIn K (.ref f_l_pool) = true)
    (h_a_l_draw : PySem.W.nsIn K mainGlobals "_law_draw" = some (some (.ref f_l_draw)))
    (h_l_l_draw : K.lookup f_l_draw = some ⟨oc_l_draw, od_l_draw, .func (PySem.W.fnOf "_law_draw" "_law_draw" (defArgs s_l_draw) (defBody s_l_draw) (defScope s_l_draw) .none kV_l_draw dc_l_draw pm_l_draw an_l_draw cd_l_draw ct_l_draw), sl_l_draw⟩)
    (h_c_l_draw : PySem.W.codeIn K cd_l_draw "_law_draw" = true)
    (h_k_l_draw : PySem.W.keepIn K (.ref f_l_draw) = true)
    (h_a_l_questions : PySem.W.nsIn K mainGlobals "_law_questions" = some (some (.ref f_l_questions)))
    (h_l_l_questions : K.lookup f_l_questions = some ⟨oc_l_questions, od_l_questions, .func (PySem.W.fnOf "_law_questions" "_law_questions" (defArgs s_l_questions) (defBody s_l_questions) (defScope s_l_questions) .none kV_l_questions dc_l_questions pm_l_questions an_l_questions cd_l_questions ct_l_questions), sl_l_questions⟩)
    (h_c_l_questions : PySem.W.codeIn K cd_l_questions "_law_questions" = true)
    (h_k_l_questions : PySem.W.keepIn K (.ref f_l_questions) = true)
    (h_a_l_built : PySem.W.nsIn K mainGlobals "_law_built" = some (some (.ref f_l_built)))
    (h_l_l_built : K.lookup f_l_built = some ⟨oc_l_built, od_l_built, .func (PySem.W.fnOf "_law_built" "_law_built" (defArgs s_l_built) (defBody s_l_built) (defScope s_l_built) .none kV_l_built dc_l_built pm_l_built an_l_built cd_l_built ct_l_built), sl_l_built⟩)
    (h_c_l_built : PySem.W.codeIn K cd_l_built "_law_built" = true)
    (h_k_l_built : PySem.W.keepIn K (.ref f_l_built) = true)
    (h_a_l_added : PySem.W.nsIn K mainGlobals "_law_added" = some (some (.ref f_l_added)))
    (h_l_l_added : K.lookup f_l_added = some ⟨oc_l_added, od_l_added, .func (PySem.W.fnOf "_law_added" "_law_added" (defArgs s_l_added) (defBody s_l_added) (defScope s_l_added) .none kV_l_added dc_l_added pm_l_added an_l_added cd_l_added ct_l_added), sl_l_added⟩)
    (h_c_l_added : PySem.W.codeIn K cd_l_added "_law_added" = true)
    (h_k_l_added : PySem.W.keepIn K (.ref f_l_added) = true)
    (h_a_l_rights : PySem.W.nsIn K mainGlobals "_law_rights" = some (some (.ref f_l_rights)))
    (h_l_l_rights : K.lookup f_l_rights = some ⟨oc_l_rights, od_l_rights, .func (PySem.W.fnOf "_law_rights" "_law_rights" (defArgs s_l_rights) (defBody s_l_rights) (defScope s_l_rights) .none kV_l_rights dc_l_rights pm_l_rights an_l_rights cd_l_rights ct_l_rights), sl_l_rights⟩)
    (h_c_l_rights : PySem.W.codeIn K cd_l_rights "_law_rights" = true)
    (h_k_l_rights : PySem.W.keepIn K (.ref f_l_rights) = true)
    (h_a_l_same : PySem.W.nsIn K mainGlobals "_law_same" = some (some (.ref f_l_same)))
    (h_l_l_same : K.lookup f_l_same = some ⟨oc_l_same, od_l_same, .func (PySem.W.fnOf "_law_same" "_law_same" (defArgs s_l_same) (defBody s_l_same) (defScope s_l_same) .none kV_l_same dc_l_same pm_l_same an_l_same cd_l_same ct_l_same), sl_l_same⟩)
    (h_c_l_same : PySem.W.codeIn K cd_l_same "_law_same" = true)
    (h_k_l_same : PySem.W.keepIn K (.ref f_l_same) = true)
    (h_a_law : PySem.W.nsIn K mainGlobals "law" = some (some (.ref f_law)))
    (h_l_law : K.lookup f_law = some ⟨oc_law, od_law, .func (PySem.W.fnOf "law" "law" (defArgs s_law) (defBody s_law) (defScope s_law) .none kV_law dc_law pm_law an_law cd_law ct_law), sl_law⟩)
    (h_c_law : PySem.W.codeIn K cd_law "law" = true)
    (h_k_law : PySem.W.keepIn K (.ref f_law) = true)
    (h_ti_BadQuestion : PySem.W.typeIn K (.ref f_BadQuestion_init) = some (.type "function"))
    (h_g_QUESTIONS : PySem.W.nsIn K mainGlobals "QUESTIONS" = some (some (.int 48 t_QUESTIONS)))
    (h_z_abs : PySem.W.nsIn K mainGlobals "abs" = some none)
    (h_z_int : PySem.W.nsIn K mainGlobals "int" = some none)
    (h_z_isinstance : PySem.W.nsIn K mainGlobals "isinstance" = some none)
    (h_z_len : PySem.W.nsIn K mainGlobals "len" = some none)
    (h_z_list : PySem.W.nsIn K mainGlobals "list" = some none)
    (h_z_range : PySem.W.nsIn K mainGlobals "range" = some none)
    (h_z_set : PySem.W.nsIn K mainGlobals "set" = some none)
    (h_z_sorted : PySem.W.nsIn K mainGlobals "sorted" = some none)
    (h_z_tuple : PySem.W.nsIn K mainGlobals "tuple" = some none) :
    ∃ fd : FuncData, (∀ (s : Shared) (v : Value), BindsTo s fd ⟨[v], []⟩ [("_law_script", v)]) ∧ ∀ base : Heap, K.In base → base.Ns mainGlobals mg → FnOk l.prog w K mg base CX0 8 fa fd ["_law_script"] (sp_law K) := by
  have e := hfa.symm.trans (PySem.W.mg_of X G h_a_law)
  cases e
  have T : Txt K mg (Ad.mk c_TestError c_BadQuestion c_Pupil f_BadQuestion_init (PySem.W.fnOf "__init__" "BadQuestion.__init__" (defArgs s_BadQuestion_init) (defBody s_BadQuestion_init) (defScope s_BadQuestion_init) .none kV_BadQuestion_init dc_BadQuestion_init pm_BadQuestion_init an_BadQuestion_init cd_BadQuestion_init ct_BadQuestion_init) f_is_question (PySem.W.fnOf "is_question" "is_question" (defArgs s_is_question) (defBody s_is_question) (defScope s_is_question) .none kV_is_question dc_is_question pm_is_question an_is_question cd_is_question ct_is_question) f_Pupil_init (PySem.W.fnOf "__init__" "Pupil.__init__" (defArgs s_Pupil_init) (defBody s_Pupil_init) (defScope s_Pupil_init) .none kV_Pupil_init dc_Pupil_init pm_Pupil_init an_Pupil_init cd_Pupil_init ct_Pupil_init) f_Pupil_contains (PySem.W.fnOf "__contains__" "Pupil.__contains__" (defArgs s_Pupil_contains) (defBody s_Pupil_contains) (defScope s_Pupil_contains) .none kV_Pupil_contains dc_Pupil_contains pm_Pupil_contains an_Pupil_contains cd_Pupil_contains ct_Pupil_contains) f_Pupil_len (PySem.W.fnOf "__len__" "Pupil.__len__" (defArgs s_Pupil_len) (defBody s_Pupil_len) (defScope s_Pupil_len) .none kV_Pupil_len dc_Pupil_len pm_Pupil_len an_Pupil_len cd_Pupil_len ct_Pupil_len) f_Pupil_eq (PySem.W.fnOf "__eq__" "Pupil.__eq__" (defArgs s_Pupil_eq) (defBody s_Pupil_eq) (defScope s_Pupil_eq) .none kV_Pupil_eq dc_Pupil_eq pm_Pupil_eq an_Pupil_eq cd_Pupil_eq ct_Pupil_eq) f_Pupil_added (PySem.W.fnOf "added" "Pupil.added" (defArgs s_Pupil_added) (defBody s_Pupil_added) (defScope s_Pupil_added) .none kV_Pupil_added dc_Pupil_added pm_Pupil_added an_Pupil_added cd_Pupil_added ct_Pupil_added) f_l_pool (PySem.W.fnOf "_law_pool" "_law_pool" (defArgs s_l_pool) (defBody s_l_pool) (defScope s_l_pool) .none kV_l_pool dc_l_pool pm_l_pool an_l_pool cd_l_pool ct_l_pool) f_l_draw (PySem.W.fnOf "_law_draw" "_law_draw" (defArgs s_l_draw) (defBody s_l_draw) (defScope s_l_draw) .none kV_l_draw dc_l_draw pm_l_draw an_l_draw cd_l_draw ct_l_draw) f_l_questions (PySem.W.fnOf "_law_questions" "_law_questions" (defArgs s_l_questions) (defBody s_l_questions) (defScope s_l_questions) .none kV_l_questions dc_l_questions pm_l_questions an_l_questions cd_l_questions ct_l_questions) f_l_built (PySem.W.fnOf "_law_built" "_law_built" (defArgs s_l_built) (defBody s_l_built) (defScope s_l_built) .none kV_l_built dc_l_built pm_l_built an_l_built cd_l_built ct_l_built) f_l_added (PySem.W.fnOf "_law_added" "_law_added" (defArgs s_l_added) (defBody s_l_added) (defScope s_l_added) .none kV_l_added dc_l_added pm_l_added an_l_added cd_l_added ct_l_added) f_l_rights (PySem.W.fnOf "_law_rights" "_law_rights" (defArgs s_l_rights) (defBody s_l_rights) (defScope s_l_rights) .none kV_l_rights dc_l_rights pm_l_rights an_l_rights cd_l_rights ct_l_rights) f_l_same (PySem.W.fnOf "_law_same" "_law_same" (defArgs s_l_same) (defBody s_l_same) (defScope s_l_same) .none kV_l_same dc_l_same pm_l_same an_l_same cd_l_same ct_l_same) fa (PySem.W.fnOf "law" "law" (defArgs s_law) (defBody s_law) (defScope s_law) .none kV_law dc_law pm_law an_law cd_law ct_law) t_QUESTIONS) :=
    Txt.mk (PySem.W.mg_of X G h_g_TestError) (PySem.W.mg_of X G h_g_BadQuestion) (PySem.W.mg_of X G h_g_Pupil) (⟨h_pg_Pupil, h_hd_Pupil, h_po_Pupil, h_sa_Pupil⟩) (⟨h_mkk_Pupil, h_a_Pupil_init, h_i_Pupil_init, h_kc_Pupil⟩) (h_nA_Pupil_rights) (⟨h_ic1_Pupil, h_ic2_Pupil, h_ic3_Pupil, h_ic4_Pupil⟩) (if_pos (beq_self_eq_true _)) (⟨h_bga_TestError, h_ty_TestError, h_brd_TestError, h_bfi_TestError⟩) (⟨⟨_, _, _, _, _, _, _, _, _, _, _, _, _, _, _, h_xl_BadQuestion, by rfl⟩, h_sa_BadQuestion, h_eb_BadQuestion, h_ty_BadQuestion, h_kc_BadQuestion⟩) (⟨h_ga_BadQuestion, h_gg_BadQuestion, h_eb_BadQuestion, h_hd_BadQuestion⟩) (h_nf_BadQuestion_number) (PySem.W.exm_ref h_eb_BadQuestion h_hd_BadQuestion h_ty_BadQuestion h_ss_BadQuestion) (⟨h_ga_BadQuestion, h_gg_BadQuestion, h_eb_BadQuestion, h_hd_BadQuestion, h_ic1_BadQuestion, h_eg2, h_eg3, h_ic4_BadQuestion⟩) (h_a_BadQuestion_init) (h_ti_BadQuestion) (kit_sub h_sb_BadQuestion h_icl_TestError h_ty_TestError) (fun_mk h_l_BadQuestion_init h_c_BadQuestion_init h_k_BadQuestion_init) ((fun_mk (st := s_BadQuestion_init) h_l_BadQuestion_init h_c_BadQuestion_init h_k_BadQuestion_init).binds (ps := P_BadQuestion_init) fun _ _ _ _ _ _ us hl => match us, hl with | [_, _], _ => rfl) (h_k_BadQuestion_init) (h_i_BadQuestion_init) (fun_mk h_l_is_question h_c_is_question h_k_is_question) ((fun_mk (st := s_is_question) h_l_is_question h_c_is_question h_k_is_question).binds (ps := P_is_question) fun _ _ _ _ _ _ us hl => match us, hl with | [_], _ => rfl) (h_k_is_question) (PySem.W.mg_of X G h_a_is_question) (fun_mk h_l_Pupil_init h_c_Pupil_init h_k_Pupil_init) ((fun_mk (st := s_Pupil_init) h_l_Pupil_init h_c_Pupil_init h_k_Pupil_init).binds (ps := P_Pupil_init) fun _ _ _ _ _ _ us hl => match us, hl with | [_, _], _ => rfl) (h_k_Pupil_init) (h_i_Pupil_init) (fun_mk h_l_Pupil_contains h_c_Pupil_contains h_k_Pupil_contains) ((fun_mk (st := s_Pupil_contains) h_l_Pupil_contains h_c_Pupil_contains h_k_Pupil_contains).binds (ps := P_Pupil_contains) fun _ _ _ _ _ _ us hl => match us, hl with | [_, _], _ => rfl) (h_k_Pupil_contains) (h_i_Pupil_contains) (h_a_Pupil_contains) (fun_mk h_l_Pupil_len h_c_Pupil_len h_k_Pupil_len) ((fun_mk (st := s_Pupil_len) h_l_Pupil_len h_c_Pupil_len h_k_Pupil_len).binds (ps := P_Pupil_len) fun _ _ _ _ _ _ us hl => match us, hl with | [_], _ => rfl) (h_k_Pupil_len) (h_i_Pupil_len) (h_a_Pupil_len) (fun_mk h_l_Pupil_eq h_c_Pupil_eq h_k_Pupil_eq) ((fun_mk (st := s_Pupil_eq) h_l_Pupil_eq h_c_Pupil_eq h_k_Pupil_eq).binds (ps := P_Pupil_eq) fun _ _ _ _ _ _ us hl => match us, hl with | [_, _], _ => rfl) (h_k_Pupil_eq) (h_i_Pupil_eq) (h_a_Pupil_eq) (fun_mk h_l_Pupil_added h_c_Pupil_added h_k_Pupil_added) ((fun_mk (st := s_Pupil_added) h_l_Pupil_added h_c_Pupil_added h_k_Pupil_added).binds (ps := P_Pupil_added) fun _ _ _ _ _ _ us hl => match us, hl with | [_, _], _ => rfl) (h_k_Pupil_added) (h_i_Pupil_added) (⟨h_a_Pupil_added, h_i_Pupil_added, h_k_Pupil_added⟩) (fun_mk h_l_l_pool h_c_l_pool h_k_l_pool) ((fun_mk (st := s_l_pool) h_l_l_pool h_c_l_pool h_k_l_pool).binds (ps := P_l_pool) fun _ _ _ _ _ _ us hl => match us, hl with | [_], _ => rfl) (h_k_l_pool) (PySem.W.mg_of X G h_a_l_pool) (fun_mk h_l_l_draw h_c_l_draw h_k_l_draw) ((fun_mk (st := s_l_draw) h_l_l_draw h_c_l_draw h_k_l_draw).binds (ps := P_l_draw) fun _ _ _ _ _ _ us hl => match us, hl with | [_, _], _ => rfl) (h_k_l_draw) (PySem.W.mg_of X G h_a_l_draw) (fun_mk h_l_l_questions h_c_l_questions h_k_l_questions) ((fun_mk (st := s_l_questions) h_l_l_questions h_c_l_questions h_k_l_questions).binds (ps := P_l_questions) fun _ _ _ _ _ _ us hl => match us, hl with | [_, _], _ => rfl) (h_k_l_questions) (PySem.W.mg_of X G h_a_l_questions) (fun_mk h_l_l_built h_c_l_built h_k_l_built) ((fun_mk (st := s_l_built) h_l_l_built h_c_l_built h_k_l_built).binds (ps := P_l_built) fun _ _ _ _ _ _ us hl => match us, hl with | [_], _ => rfl) (h_k_l_built) (PySem.W.mg_of X G h_a_l_built) (fun_mk h_l_l_added h_c_l_added h_k_l_added) ((fun_mk (st := s_l_added) h_l_l_added h_c_l_added h_k_l_added).binds (ps := P_l_added) fun _ _ _ _ _ _ us hl => match us, hl with | [_, _], _ => rfl) (h_k_l_added) (PySem.W.mg_of X G h_a_l_added) (fun_mk h_l_l_rights h_c_l_rights h_k_l_rights) ((fun_mk (st := s_l_rights) h_l_l_rights h_c_l_rights h_k_l_rights).binds (ps := P_l_rights) fun _ _ _ _ _ _ us hl => match us, hl with | [_], _ => rfl) (h_k_l_rights) (PySem.W.mg_of X G h_a_l_rights) (fun_mk h_l_l_same h_c_l_same h_k_l_same) ((fun_mk (st := s_l_same) h_l_l_same h_c_l_same h_k_l_same).binds (ps := P_l_same) fun _ _ _ _ _ _ us hl => match us, hl with | [_, _], _ => rfl) (h_k_l_same) (PySem.W.mg_of X G h_a_l_same) (fun_mk h_l_law h_c_law h_k_law) ((fun_mk (st := s_law) h_l_law h_c_law h_k_law).binds (ps := P_law) fun _ _ _ _ _ _ us hl => match us, hl with | [_], _ => rfl) (h_k_law) (PySem.W.mg_of X G h_a_law) (PySem.W.mg_of X G h_g_QUESTIONS) (PySem.W.mg_none_of X G h_z_abs) (PySem.W.mg_none_of X G h_z_int) (PySem.W.mg_none_of X G h_z_isinstance) (PySem.W.mg_none_of X G h_z_len) (PySem.W.mg_none_of X G h_z_list) (PySem.W.mg_none_of X G h_z_range) (PySem.W.mg_none_of X G h_z_set) (PySem.W.mg_none_of X G h_z_sorted) (PySem.W.mg_none_of X G h_z_tuple)
  exact ⟨_, fun s v => .of_eq rfl, fun base _ _ => ok_law T⟩
theorem walk {l : PySem.W.OpenLaw} {q : Program} {loose : List Str} {XP : (Str → Option Value) → Heap → Prop} {YP : World → Heap → Prop} {d : DefRec} {K : Params → PySem.W.Frag} (hn : l.most = some 63) (hdf : d.params.defaults = [])
    (hY : ∀ (w : World) (h : Heap), YP w h → (K w.params).In h)
    (F : ∀ (w : World) (mg : Str → Option Value) (fa : Addr) (h : Heap), (K w.params).In h → h.Ns mainGlobals mg → mg d.name = some (.ref fa) →
      ∃ fd : FuncData, (∀ (s : Shared) (u : Value), BindsTo s fd ⟨[u], []⟩ [("_law_script", u)]) ∧ ∀ base : Heap, (K w.params).In base → base.Ns mainGlobals mg → FnOk l.prog w (K w.params) mg base CX0 8 fa fd ["_law_script"] (sp_law (K w.params))) :
    PySem.W.WalkO q loose XP YP l.row.toRowW d [] (fun f vs => PySem.call f vs) :=
  L2.walk_of (n := 63) (k := 8) (x := "_law_script") (CX := fun _ => CX0) (sp := fun w => sp_law (K w.params)) hn (by decide) hdf ⟨rfl, by decide, by decide⟩ hY F (fun _ _ a ns hl hO hS => ⟨a, ns, rfl, scr_of hO hS, hl, fun _ => rfl⟩) fun _ _ _ _ _ z => z
end K04

open PySem PySem.W PyProof.Rows in
set_option maxRecDepth 100000 in
set_option maxHeartbeats 0 in
theorem PySem.Challenge.cw_steppedtests_k04_pupils_built_holds : PySem.Challenge.rw_steppedtests_k04_pupils_built.Holds := by
  w_on; o_law; k_head; (case hw => w_witness2)
  k_fill
  refine K04.walk (l := PySem.Challenge.rw_steppedtests_k04_pupils_built) rfl rfl (fun w h Y => PySem.W.kIn_of Y) ?F
  case F =>
    intro w mg fa h KX G hmg
    refine' K04.all_mk KX G hmg ?h_g_TestError ?h_g_BadQuestion ?h_g_Pupil ?h_pg_Pupil ?h_hd_Pupil ?h_po_Pupil ?h_sa_Pupil ?h_mkk_Pupil ?h_kc_Pupil ?h_nA_Pupil_rights ?h_ic1_Pupil ?h_ic2_Pupil ?h_ic3_Pupil ?h_ic4_Pupil ?h_bga_TestError ?h_ty_TestError ?h_brd_TestError ?h_bfi_TestError ?h_xl_BadQuestion ?h_sa_BadQuestion ?h_eb_BadQuestion ?h_ty_BadQuestion ?h_kc_BadQuestion ?h_ga_BadQuestion ?h_gg_BadQuestion ?h_hd_BadQuestion ?h_ss_BadQuestion ?h_ic1_BadQuestion ?h_eg2 ?h_eg3 ?h_ic4_BadQuestion ?h_nf_BadQuestion_number ?h_sb_BadQuestion ?h_icl_TestError ?h_a_BadQuestion_init ?h_i_BadQuestion_init ?h_l_BadQuestion_init ?h_c_BadQuestion_init ?h_k_BadQuestion_init ?h_a_is_question ?h_l_is_question ?h_c_is_question ?h_k_is_question ?h_a_Pupil_init ?h_i_Pupil_init ?h_l_Pupil_init ?h_c_Pupil_init ?h_k_Pupil_init ?h_a_Pupil_contains ?h_i_Pupil_contains ?h_l_Pupil_contains ?h_c_Pupil_contains ?h_k_Pupil_contains ?h_a_Pupil_len ?h_i_Pupil_len ?h_l_Pupil_len ?h_c_Pupil_len ?h_k_Pupil_len ?h_a_Pupil_eq ?h_i_Pupil_eq ?h_l_Pupil_eq ?h_c_Pupil_eq ?h_k_Pupil_eq ?h_a_Pupil_added ?h_i_Pupil_added ?h_l_Pupil_added ?h_c_Pupil_added ?h_k_Pupil_added ?h_a_l_pool ?h_l_l_pool ?h_c_l_pool ?h_k_l_pool ?h_a_l_draw ?h_l_l_draw ?h_c_l_draw ?h_k_l_draw ?h_a_l_questions ?h_l_l_questions ?h_c_l_questions ?h_k_l_questions ?h_a_l_built ?h_l_l_built ?h_c_l_built ?h_k_l_built ?h_a_l_added ?h_l_l_added ?h_c_l_added ?h_k_l_added ?h_a_l_rights ?h_l_l_rights ?h_c_l_rights ?h_k_l_rights ?h_a_l_same ?h_l_l_same ?h_c_l_same ?h_k_l_same ?h_a_law ?h_l_law ?h_c_law ?h_k_law ?h_ti_BadQuestion ?h_g_QUESTIONS ?h_z_abs ?h_z_int ?h_z_isinstance ?h_z_len ?h_z_list ?h_z_range ?h_z_set ?h_z_sorted ?h_z_tuple
    (case h_g_TestError => k_is)
    (case h_g_BadQuestion => k_is)
    (case h_g_Pupil => k_is)
    (case h_pg_Pupil => k_is)
    (case h_hd_Pupil => k_is)
    (case h_po_Pupil => k_is)
    (case h_sa_Pupil => k_is)
    (case h_mkk_Pupil => k_is)
    (case h_kc_Pupil => k_is)
    (case h_nA_Pupil_rights => k_is)
    (case h_ic1_Pupil => k_is)
    (case h_ic2_Pupil => k_is)
    (case h_ic3_Pupil => k_is)
    (case h_ic4_Pupil => k_is)
    (case h_bga_TestError => k_is)
    (case h_ty_TestError => k_is)
    (case h_brd_TestError => k_is)
    (case h_bfi_TestError => k_is)
    (case h_xl_BadQuestion => k_is)
    (case h_sa_BadQuestion => k_is)
    (case h_eb_BadQuestion => k_is)
    (case h_ty_BadQuestion => k_is)
    (case h_kc_BadQuestion => k_is)
    (case h_ga_BadQuestion => k_is)
    (case h_gg_BadQuestion => k_is)
    (case h_hd_BadQuestion => k_is)
    (case h_ss_BadQuestion => first | rfl | k_is)
    (case h_ic1_BadQuestion => k_is)
    (case h_eg2 => k_is)
    (case h_eg3 => k_is)
    (case h_ic4_BadQuestion => k_is)
    (case h_nf_BadQuestion_number => k_is)
    (case h_sb_BadQuestion => k_is)
    (case h_icl_TestError => k_is)
    (case h_a_BadQuestion_init => k_is)
    (case h_i_BadQuestion_init => k_is)
    (case h_l_BadQuestion_init => k_is)
    (case h_c_BadQuestion_init => k_is)
    (case h_k_BadQuestion_init => k_is)
    (case h_a_is_question => k_is)
    (case h_l_is_question => k_is)
    (case h_c_is_question => k_is)
    (case h_k_is_question => k_is)
    (case h_a_Pupil_init => k_is)
    (case h_i_Pupil_init => k_is)
    (case h_l_Pupil_init => k_is)
    (case h_c_Pupil_init => k_is)
    (case h_k_Pupil_init => k_is)
    (case h_a_Pupil_contains => k_is)
    (case h_i_Pupil_contains => k_is)
    (case h_l_Pupil_contains => k_is)
    (case h_c_Pupil_contains => k_is)
    (case h_k_Pupil_contains => k_is)
    (case h_a_Pupil_len => k_is)
    (case h_i_Pupil_len => k_is)
    (case h_l_Pupil_len => k_is)
    (case h_c_Pupil_len => k_is)
    (case h_k_Pupil_len => k_is)
    (case h_a_Pupil_eq => k_is)
    (case h_i_Pupil_eq => k_is)
    (case h_l_Pupil_eq => k_is)
    (case h_c_Pupil_eq => k_is)
    (case h_k_Pupil_eq => k_is)
    (case h_a_Pupil_added => k_is)
    (case h_i_Pupil_added => k_is)
    (case h_l_Pupil_added => k_is)
    (case h_c_Pupil_added => k_is)
    (case h_k_Pupil_added => k_is)
    (case h_a_l_pool => k_is)
    (case h_l_l_pool => k_is)
    (case h_c_l_pool => k_is)
    (case h_k_l_pool => k_is)
    (case h_a_l_draw => k_is)
    (case h_l_l_draw => k_is)
    (case h_c_l_draw => k_is)
    (case h_k_l_draw => k_is)
    (case h_a_l_questions => k_is)
    (case h_l_l_questions => k_is)
    (case h_c_l_questions => k_is)
    (case h_k_l_questions => k_is)
    (case h_a_l_built => k_is)
    (case h_l_l_built => k_is)
    (case h_c_l_built => k_is)
    (case h_k_l_built => k_is)
    (case h_a_l_added => k_is)
    (case h_l_l_added => k_is)
    (case h_c_l_added => k_is)
    (case h_k_l_added => k_is)
    (case h_a_l_rights => k_is)
    (case h_l_l_rights => k_is)
    (case h_c_l_rights => k_is)
    (case h_k_l_rights => k_is)
    (case h_a_l_same => k_is)
    (case h_l_l_same => k_is)
    (case h_c_l_same => k_is)
    (case h_k_l_same => k_is)
    (case h_a_law => k_is)
    (case h_l_law => k_is)
    (case h_c_law => k_is)
    (case h_k_law => k_is)
    (case h_ti_BadQuestion => k_is)
    (case h_g_QUESTIONS => k_is)
    (case h_z_abs => k_is)
    (case h_z_int => k_is)
    (case h_z_isinstance => k_is)
    (case h_z_len => k_is)
    (case h_z_list => k_is)
    (case h_z_range => k_is)
    (case h_z_set => k_is)
    (case h_z_sorted => k_is)
    (case h_z_tuple => k_is)
