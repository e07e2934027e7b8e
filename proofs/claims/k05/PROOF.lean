import PyProof.Rows.All
import Wide.All
import OpenK.AllK
import Wide.FinOn
import HandS.ForMost
import HandS.ForExc
import HandS.OwnEq
import HandS.Wide
import HandS.SetFor
import HandS.Strs
import HandS.IsInst
import HandS.TupAny
import HandS.Style
import HandS.Codes
import HandS.Flow
import HandS.Evl
import HandS.Conv
import KE.KEqDeep
import PySem.Challenge.RW_steppedtests_k05_pupil_operators
set_option Elab.async false
set_option linter.all false
set_option maxRecDepth 100000
set_option maxHeartbeats 4000000
namespace L2
open PySem PySem.Spec PyProof.Rows
/-! ## own special methods of a class: | & - by __or__ .., <= == by __le__ .., in by __contains__, len by __len__ -/
section
variable {X : Cx} {n : Nat} {CX : CXT} {C f : Addr} {fd : FuncData} {ps : List Str} {sp : Sp} {E : XK} {pins : List (Addr × Obj)} {σ : St} {H : Hp} {s : Shared}
theorem run_own {A : Around} {vs : List V} {us : List Value} {Q : VK} (F : FnOk X.prog X.w X.K X.mg X.base CX n f fd ps sp) (sb : Sub X n A) (hb : Binds X.K fd ps []) (hx : Passes CX X E)
    (I : Inv X pins σ H s) (r : Vals vs us) (h : sp vs H Q E) : wpAny (model X.prog X.w) A (call (.ref f) us) (EP X pins σ Q) X.xe s := by
  have e0 : Env0 X.prog X.w X.K X.mg X.base A X.stack s H := by
    have e := I.env0
    exact ⟨by rw [sb.fr]; exact e.frames, e.mod, e.bs, e.bsz, e.funs, e.frf, e.hok, e.bare⟩
  have hl := F.len _ _ _ _ h
  have hl2 : us.length = ps.length := by rw [← hl, r.length]
  refine wpAny_call (codeAny_mono (F.run A X.stack s H ⟨us, []⟩ us vs Q E sb.room e0 (by
    have := hb s us I.kIn (by simpa using hl2)
    simpa using this) r h) fun r' s' hq => ?_)
  cases r' with
  | error e => exact hx pins σ H s e s' I hq
  | ok fl =>
    cases fl with
    | ret w => exact I.after hq
    | next => exact False.elim hq
    | brk => exact False.elim hq
    | cont => exact False.elim hq
/-- a value of the layer is never NotImplemented -/
theorem back_ep {u : Value} {s' : Shared} {Q : VK} (h : EP X pins σ Q u s') : PySem.W.CmpBack (EP X pins σ Q) u s' := by
  obtain ⟨v, H', I', r, q⟩ := id h
  cases v with
  | non => cases r; exact h
  | bl b => cases r; exact h
  | int i => obtain ⟨t, rfl⟩ := r; exact h
  | str x => obtain ⟨t, rfl⟩ := r; exact h
  | byt x => obtain ⟨t, rfl⟩ := r; exact h
  | flt x => obtain ⟨t, rfl⟩ := r; exact h
  | ref a => cases r; exact h
  | ty m => cases r; exact h
def rOwn (C : Addr) (sp : Sp) (E : XK) : R2 := fun x y H Q => ∃ a b dx dy fs gs, x = .ref a ∧ y = .ref b ∧ H a = some (.ins C dx fs) ∧ H b = some (.ins C dy gs) ∧ sp [.ref a, .ref b] H Q E
theorem op_own {op : Operator} (F : FnOk X.prog X.w X.K X.mg X.base CX n f fd ps sp) (hr : Room n X.A) (hs : PySem.W.findIn X.K (.ref C) (PySem.dunder op.info.2) = some (some (.ref f))) (hf : PySem.W.isFn X.K (.ref f) = true)
    (hc : PySem.W.selfFirst X.K C = true) (hb : Binds X.K fd ps []) (hx : Passes CX X E) : OpR X (binaryOp op) (rOwn C sp E) := by
  intro pins s σ H x y v u Q I rx ry h
  obtain ⟨a, b, dx, dy, fs, gs, rfl, rfl, ha, hb', h⟩ := h
  cases rx
  cases ry
  obtain ⟨mA, J, _⟩ := ins_get I.hok ha
  obtain ⟨mB, J', _⟩ := ins_get I.hok hb'
  obtain ⟨od, J, _⟩ := J.look
  obtain ⟨od', J', _⟩ := J'.look
  obtain ⟨m, hF⟩ := I.fr
  refine PySem.W.binop_K hF I.ok.mod.kin J J'.type hc hs hf ?_
  exact thn (run_own (vs := [.ref a, .ref b]) F ⟨hr, rfl⟩ hb hx I (.cons rfl (.cons rfl .nil)) h) fun u s' q => back_ep q
theorem cmp_own {op : CmpOp} (F : FnOk X.prog X.w X.K X.mg X.base CX n f fd ps sp) (hr : Room n X.A) (hs : PySem.W.findIn X.K (.ref C) (PySem.cmpInfo op).2.1 = some (some (.ref f))) (hf : PySem.W.isFn X.K (.ref f) = true)
    (hb : Binds X.K fd ps []) (hx : Passes CX X E) : OpR X (richCompare op) (rOwn C sp E) := by
  intro pins s σ H x y v u Q I rx ry h
  obtain ⟨a, b, dx, dy, fs, gs, rfl, rfl, ha, hb', h⟩ := h
  cases rx
  cases ry
  obtain ⟨mA, J, _⟩ := ins_get I.hok ha
  obtain ⟨mB, J', _⟩ := ins_get I.hok hb'
  obtain ⟨od, J, _⟩ := J.look
  obtain ⟨od', J', _⟩ := J'.look
  obtain ⟨m, hF⟩ := I.fr
  refine PySem.W.cmp_K hr.units0 hF I.ok.mod.kin J J'.type (by simp [PySem.W.notFirst]) hs hf ?_
  exact thn (run_own (vs := [.ref a, .ref b]) F ⟨hr, rfl⟩ hb hx I (.cons rfl (.cons rfl .nil)) h) fun u s' q => back_ep q
def rOwnIn (C : Addr) (sp : Sp) (E : XK) (neg : Bool) : R2 := fun x y H Q => ∃ b dy gs, y = .ref b ∧ H b = some (.ins C dy gs) ∧ sp [.ref b, x] H (fun v H' => ∃ k, v = .bl k ∧ Q (.bl (if neg then !k else k)) H') E
theorem in_own (F : FnOk X.prog X.w X.K X.mg X.base CX n f fd ps sp) (hr : Room n X.A) (hs : PySem.W.findIn X.K (.ref C) "__contains__" = some (some (.ref f))) (hf : PySem.W.isFn X.K (.ref f) = true)
    (hb : Binds X.K fd ps []) (hx : Passes CX X E) : OpR X (compareOp .In) (rOwnIn C sp E false) := by
  intro pins s σ H x y v u Q I rx ry h
  obtain ⟨b, dy, gs, rfl, hb', h⟩ := h
  cases ry
  obtain ⟨mB, J', _⟩ := ins_get I.hok hb'
  obtain ⟨od', J', _⟩ := J'.look
  obtain ⟨m, hF⟩ := I.fr
  refine PySem.W.in_K hF I.ok.mod.kin J' hs hf ?_
  refine thn (run_own (vs := [.ref b, x]) F ⟨hr, rfl⟩ hb hx I (.cons rfl (.cons rx .nil)) h) fun u s' q => ?_
  obtain ⟨z, H', I', rz, k, rfl, q⟩ := q
  cases rz
  exact wpAny_truthy_bool ⟨.bl k, H', I', rfl, q⟩
theorem notIn_own (F : FnOk X.prog X.w X.K X.mg X.base CX n f fd ps sp) (hr : Room n X.A) (hs : PySem.W.findIn X.K (.ref C) "__contains__" = some (some (.ref f))) (hf : PySem.W.isFn X.K (.ref f) = true)
    (hb : Binds X.K fd ps []) (hx : Passes CX X E) : OpR X (compareOp .NotIn) (rOwnIn C sp E true) := by
  intro pins s σ H x y v u Q I rx ry h
  obtain ⟨b, dy, gs, rfl, hb', h⟩ := h
  cases ry
  obtain ⟨mB, J', _⟩ := ins_get I.hok hb'
  obtain ⟨od', J', _⟩ := J'.look
  obtain ⟨m, hF⟩ := I.fr
  refine PySem.W.notIn_K hF I.ok.mod.kin J' hs hf ?_
  refine thn (run_own (vs := [.ref b, x]) F ⟨hr, rfl⟩ hb hx I (.cons rfl (.cons rx .nil)) h) fun u s' q => ?_
  obtain ⟨z, H', I', rz, k, rfl, q⟩ := q
  cases rz
  exact wpAny_truthy_bool ⟨.bl (!k), H', I', rfl, q⟩
def rOwnLen (C : Addr) (sp : Sp) (E : XK) : List V → Hp → VK → Prop := fun xs H Q => ∃ b dy gs, xs = [.ref b] ∧ H b = some (.ins C dy gs) ∧ sp [.ref b] H (fun v H' => ∃ k : Int, v = .int k ∧ 0 ≤ k ∧ k < 2 ^ 63 ∧ Q (.int k) H') E
theorem len_own (F : FnOk X.prog X.w X.K X.mg X.base CX n f fd ps sp) (hr : Room (n + 1) X.A) (hs : PySem.W.findIn X.K (.ref C) "__len__" = some (some (.ref f))) (hf : PySem.W.isFn X.K (.ref f) = true)
    (hb : Binds X.K fd ps []) (hx : Passes CX X E) : CallR X (.builtin "len") (rOwnLen C sp E) := by
  intro pins s σ H xs us Q I r h
  obtain ⟨b, dy, gs, rfl, hb', h⟩ := h
  rw [Vals.ref1 r]
  obtain ⟨mB, J', _⟩ := ins_get I.hok hb'
  obtain ⟨od', J', _⟩ := J'.look
  obtain ⟨m, hF⟩ := I.fr
  refine PySem.W.len_K hF I.ok.mod.kin J' hs hf ?_
  have sb : Sub X (n + 1) X.A := ⟨hr, rfl⟩
  refine thn (run_own (vs := [.ref b]) F sb.in1 hb hx I (.cons rfl .nil) h) fun u s' q => ?_
  obtain ⟨z, H', I', rz, k, rfl, h0, h1, q⟩ := q
  obtain ⟨t, rfl⟩ := rz
  exact ⟨⟨h0, h1⟩, .int k, H', I'.tok _, ⟨_, rfl⟩, q⟩
/-- web[i] by an own __getitem__ -/
def rOwnIx (C : Addr) (sp : Sp) (E : XK) : R2 := fun x y H Q => ∃ a dx fs, x = .ref a ∧ H a = some (.ins C dx fs) ∧ sp [.ref a, y] H Q E
theorem pe_ownIx {a b : Expr} {ta tb : TE} {pos : Pos} (F : FnOk X.prog X.w X.K X.mg X.base CX n f fd ps sp) (hr : Room (n + 1) X.A) (hs : PySem.W.findIn X.K (.ref C) "__getitem__" = some (some (.ref f))) (hfn : PySem.W.fnIn X.K f = true) (hf : PySem.W.isFn X.K (.ref f) = true)
    (hb : Binds X.K fd ps []) (hx : Passes CX X E) (ha : PE X a ta) (hb' : PE X b tb)
    (hsl : ∀ x i, subscripted b true (.ref x) i = runValue (.builtin "lifetime.subscript" ⟨[.ref x, i], []⟩) := by intro _ _; with_unfolding_all rfl) : PE X (.Subscript a b pos) (tOp (rOwnIx C sp E) ta tb) := by
  refine ⟨fun pins s σ H Q I h => ?_⟩
  refine Subscript_ (binT ha hb' I h fun v u s2 x y H2 I2 rx ry q => ?_)
  obtain ⟨c, dx, fs, rfl, hc, q⟩ := q
  cases rx
  obtain ⟨mB, J', _⟩ := ins_get I2.hok hc
  obtain ⟨od', J', _⟩ := J'.look
  obtain ⟨m, hF⟩ := I2.fr
  have sb : Sub X (n + 1) X.A := ⟨hr, rfl⟩
  exact PySem.W.sub_K hF I2.ok.mod.kin J' hs hfn hf (run_own (vs := [.ref c, y]) F sb.in1 hb hx I2 (.cons rfl (.cons ry .nil)) q) (hsl _ _)
/-- set(t), t a tuple of ints -/
def rSetOf (K : PySem.W.Frag) (w : World) : List V → Hp → VK → Prop := fun xs H Q => ∃ (l : Addr) (ns : List Int), xs = [V.ref l] ∧ SqT K H l (ns.map V.int) ∧ ns.length ≤ 1000 ∧
  ∀ p c, H p = none → c ≤ ns.length → (∀ L : List Int, (∀ k ∈ ns, k ∈ L) → c ≤ L.length) → Q (.ref p) (upd H p (SetO w p (fun j => decide (j ∈ ns)) c))
theorem nodup_le : ∀ (l D : List Int), l.Nodup → (∀ x ∈ l, x ∈ D) → l.length ≤ D.length
  | [], _, _, _ => Nat.zero_le _
  | x :: r, D, hn, h => by
    have hx : x ∈ D := h x List.mem_cons_self
    obtain ⟨h1, h2⟩ := List.nodup_cons.mp hn
    have ih := nodup_le r (D.erase x) h2 fun y hy => by
      have hne : y ≠ x := fun e => h1 (e ▸ hy)
      exact (List.mem_erase_of_ne hne).mpr (h y (List.mem_cons_of_mem _ hy))
    rw [List.length_erase_of_mem hx] at ih
    have : 0 < D.length := List.length_pos_of_mem hx
    rw [List.length_cons]
    omega
theorem cr_setOf (hc : X.calm = true) : CallR X (.type "set") (rSetOf X.K X.w) := by
  intro pins s σ H xs us Q I r h
  obtain ⟨l, ns, rfl, hq, hl, q⟩ := h
  rw [Vals.ref1 r]
  obtain ⟨its, rv, pt, hz⟩ := I.tuple hq
  have hi : IntsAre its.toArray.toList ns := by simpa using ints_of_vals rv
  refine call_set_tupI ns (I.ok.hd hc) (show s.heap.IsTuple l its.toArray from pt) hi (by unfold scanBound; omega) fun h' tk c R hcn k => ?_
  have hn : H s.heap.objs.size = none := I.hok.fresh (Nat.le_refl _)
  refine ⟨.ref s.heap.objs.size, upd H s.heap.objs.size (SetO X.w s.heap.objs.size (fun j => decide (j ∈ ns)) c), I.laid (t' := tk) k (Nat.le_refl _) (setO_new R), rfl, q _ c hn hcn fun L hL => ?_⟩
  obtain ⟨o, es, ep, t, ho, hex, hdt, g, nd, hm2, hb, hf, hn2, hr, hl2⟩ := R
  have z := nodup_le _ L nd fun x hx => hL x (of_decide_eq_true ((hm2 x).mpr hx))
  rw [List.length_map, Array.length_toList, hn2] at z
  exact z
end
end L2

namespace L2
open PySem PySem.Spec PyProof.Rows
/-! ## heaps that keep all but the pool -/
def isPool (o : HO) : Prop := ∃ (a : Addr) (c i b s : Int), o = .lst [.ref a, .int c, .int i, .int b, .int s]
def Gd (H H' : Hp) : Prop := (∀ b o, ¬ isPool o → H b = some o → H' b = some o) ∧ ∀ b o, isPool o → H b = some o → ∃ o', isPool o' ∧ H' b = some o'
theorem Gd.refl (H : Hp) : Gd H H := ⟨fun _ _ _ h => h, fun _ o n h => ⟨o, n, h⟩⟩
theorem Gd.trans {H H1 H2 : Hp} (a : Gd H H1) (b : Gd H1 H2) : Gd H H2 := ⟨fun x o n h => b.1 x o n (a.1 x o n h), fun x o n h => let ⟨o', n', h'⟩ := a.2 x o n h; b.2 x o' n' h'⟩
theorem Same.gd {H H' : Hp} (h : Same H H') : Gd H H' := ⟨fun b o _ e => h b o e, fun b o n e => ⟨o, n, h b o e⟩⟩
theorem fresh_gd {H H' : Hp} {p : Addr} (e : Gd H H') (h : H' p = none) : H p = none := by
  cases q : H p with
  | none => rfl
  | some o =>
    exfalso
    by_cases n : isPool o
    · obtain ⟨o', _, h'⟩ := e.2 p o n q
      rw [h] at h'
      cases h'
    · have := e.1 p o n q
      rw [h] at this
      cases this
theorem np_ints (ns : List Int) : ¬ isPool (.lst (ns.map V.int)) := by
  rintro ⟨a, c, i, b, s, h⟩
  cases ns with
  | nil => cases h
  | cons x r => injection h with h; injection h with h _; cases h
theorem np_frz (o : Obj) (u : HO) : ¬ isPool (.frz o u) := by rintro ⟨a, c, i, b, s, h⟩; cases h
theorem np_tup (xs : List V) : ¬ isPool (.tup xs) := by rintro ⟨a, c, i, b, s, h⟩; cases h
theorem np_ins (C dx : Addr) (fs : List (Str × V)) : ¬ isPool (.ins C dx fs) := by rintro ⟨a, c, i, b, s, h⟩; cases h
theorem Gd.seq {K : PySem.W.Frag} {H H' : Hp} {a : Addr} {ns : List Int} (e : Gd H H') (h : SqL K H a (ns.map V.int)) : SqL K H' a (ns.map V.int) := by
  rcases h with (h | ⟨o, h⟩) | h
  · exact .inl (.inl (e.1 _ _ (np_ints ns) h))
  · exact .inl (.inr ⟨o, e.1 _ _ (np_frz _ _) h⟩)
  · exact .inr h
theorem Same.seqT {K : PySem.W.Frag} {H H' : Hp} {a : Addr} {xs : List V} (e : Same H H') (h : SqT K H a xs) : SqT K H' a xs := by
  rcases h with (h | ⟨o, h⟩) | h
  · exact .inl (.inl (e _ _ h))
  · exact .inl (.inr ⟨o, e _ _ h⟩)
  · exact .inr h
theorem same_upd {H : Hp} {p : Addr} {o : HO} (h : H p = none) : Same H (upd H p o) := fun b x e => by
  rw [upd_ne (ne_of_none e h)]
  exact e
/-- a heap made from H' by changing p, which H did not know -/
theorem Same.mut {H H' : Hp} {p : Addr} {o : HO} (e : Same H H') (h : H p = none) : Same H (upd H' p o) := fun a u ha => by
  rw [upd_ne (ne_of_none ha h)]
  exact e a u ha
theorem Gd.mut {H H' : Hp} {p : Addr} {o : HO} (e : Gd H H') (h : H p = none) : Gd H (upd H' p o) := ⟨fun a u n ha => by
  rw [upd_ne (ne_of_none ha h)]
  exact e.1 a u n ha, fun a u n ha => by
  rw [upd_ne (ne_of_none ha h)]
  exact e.2 a u n ha⟩
theorem Gd.upd {H H' : Hp} {p : Addr} {o : HO} (e : Gd H H') (h : H' p = none) : Gd H (upd H' p o) := e.mut (fresh_gd e h)
/-- the script: known to the object, or of the written part -/
def ScrAt (K : PySem.W.Frag) (H : Hp) (a : Addr) (xs : List V) : Prop :=
  (∃ o, H a = some (.frz o (.lst xs))) ∨ ∃ (o : Obj) (its : Array Value) (n : Nat), K.lookup a = some o ∧ o.cls = .type "list" ∧ o.dict = none ∧ o.data = .seq its n ∧ its.size ≤ sizeLine ∧ Vals xs its.toList
theorem ScrAt.seq {K : PySem.W.Frag} {H : Hp} {a : Addr} {xs : List V} (h : ScrAt K H a xs) : SqL K H a xs := h.elim (fun ⟨o, h⟩ => .inl (.inr ⟨o, h⟩)) fun h => .inr h
theorem ScrAt.gd {K : PySem.W.Frag} {H H' : Hp} {a : Addr} {xs : List V} (e : Gd H H') (h : ScrAt K H a xs) : ScrAt K H' a xs := h.elim (fun ⟨o, h⟩ => .inl ⟨o, e.1 _ _ (np_frz _ _) h⟩) fun h => .inr h
theorem ScrAt.mut {K : PySem.W.Frag} {H : Hp} {a D : Addr} {xs ys : List V} {o : HO} (hD : H D = some (.lst ys)) (h : ScrAt K H a xs) : ScrAt K (upd H D o) a xs :=
  h.elim (fun ⟨u, h⟩ => .inl ⟨u, by rw [upd_ne (ne_of h hD (by intro z; cases z))]; exact h⟩) fun h => .inr h
theorem scr_of {K : PySem.W.Frag} {H : Hp} {a : Addr} {xs : List V} (hO : Only H) (h : SqL K H a xs) : ScrAt K H a xs := by
  rcases h with (h | ⟨o, h⟩) | h
  · rcases hO a with z | ⟨o, ys, z⟩
    · rw [h] at z; cases z
    · rw [h] at z; cases z
  · exact .inl ⟨o, h⟩
  · exact .inr h
/-- the pool at p has drawn at most c times -/
def PoolOk (K : PySem.W.Frag) (p : Addr) (c : Nat) (H : Hp) : Prop := ∃ (sa : Addr) (ns : List Int) (c' i b s : Int), ScrAt K H sa (ns.map V.int) ∧ H p = some (.lst [.ref sa, .int c', .int i, .int b, .int s]) ∧ 0 ≤ c' ∧ c' ≤ (c : Int) ∧ 0 ≤ i ∧ i ≤ (ns.length : Int) ∧ 0 ≤ b ∧ 0 ≤ s ∧ s < 2147483629
theorem PoolOk.same {K : PySem.W.Frag} {p : Addr} {c : Nat} {H H' : Hp} (h : PoolOk K p c H) (e : Same H H') : PoolOk K p c H' := by
  obtain ⟨sa, ns, c', i, b, s, h1, h2, h3⟩ := h
  exact ⟨sa, ns, c', i, b, s, h1.gd e.gd, e _ _ h2, h3⟩
theorem PoolOk.mono {K : PySem.W.Frag} {p : Addr} {c d : Nat} {H : Hp} (h : PoolOk K p c H) (e : c ≤ d) : PoolOk K p d H := by
  obtain ⟨sa, ns, c', i, b, s, h1, h2, h3, h4, h5⟩ := h
  exact ⟨sa, ns, c', i, b, s, h1, h2, h3, by omega, h5⟩
/-- the pool is known, so a new address is another one -/
theorem PoolOk.ne {K : PySem.W.Frag} {p q : Addr} {c : Nat} {H : Hp} (h : PoolOk K p c H) (e : H q = none) : p ≠ q := by
  obtain ⟨sa, ns, c', i, b, s, h1, h2, h3⟩ := h
  exact ne_of_none h2 e
theorem PoolOk.upd {K : PySem.W.Frag} {p q : Addr} {c : Nat} {H : Hp} {o : HO} (h : PoolOk K p c H) (e : H q = none) : PoolOk K p c (upd H q o) := h.same (same_upd e)
/-- a list that stands (not the pool's) is changed: the pool stays -/
theorem PoolOk.mut {K : PySem.W.Frag} {p D : Addr} {c : Nat} {H : Hp} {ys : List V} {o : HO} (h : PoolOk K p c H) (hD : H D = some (.lst ys)) (n : ¬ isPool (.lst ys)) : PoolOk K p c (L2.upd H D o) := by
  obtain ⟨sa, ns, c', i, b, s, h1, h2, h3⟩ := h
  refine ⟨sa, ns, c', i, b, s, h1.mut hD, ?_, h3⟩
  rw [upd_ne (fun e => by
    subst e
    rw [h2] at hD
    injection hD with hD
    exact n ⟨sa, c', i, b, s, hD.symm⟩)]
  exact h2
theorem tyes {σ : St} {H : Hp} {A B : Hp → Prop} (h : A H) : tYes σ H fun b H3 => if b = true then A H3 else B H3 := by
  unfold tYes
  dsimp only
  rw [if_pos rfl]
  exact h
def pl (sa : Addr) (c i b s : Int) : HO := .lst [.ref sa, .int c, .int i, .int b, .int s]
theorem pl_pool (sa : Addr) (c i b s : Int) : isPool (pl sa c i b s) := ⟨sa, c, i, b, s, rfl⟩
theorem gd_pool {H : Hp} {p sa sa' : Addr} {c i b s c' i' b' s' : Int} (h : H p = some (pl sa c i b s)) : Gd H (upd H p (pl sa' c' i' b' s')) := ⟨fun x u n e => by
  have hx : x ≠ p := fun z => by
    subst z
    rw [h] at e
    injection e with e
    exact n ⟨sa, c, i, b, s, e.symm⟩
  rw [upd_ne hx]
  exact e, fun x u n e => by
  by_cases hx : x = p
  · subst hx
    exact ⟨_, pl_pool _ _ _ _ _, upd_same⟩
  · exact ⟨u, n, by rw [upd_ne hx]; exact e⟩⟩
def LIM : Nat := 1099511627776
def spDraw (K : PySem.W.Frag) : Sp := fun vs H Q _ => ∃ (p : Addr) (c : Nat) (lim : Int), vs = [.ref p, .int lim] ∧ PoolOk K p c H ∧ c < LIM ∧ 0 < lim ∧ lim < 2 ^ 200 ∧
  ∀ H' r, Gd H H' → PoolOk K p (c + 1) H' → 0 ≤ r → r < lim → Q (.int r) H'
def spPool (K : PySem.W.Frag) : Sp := fun vs H Q _ => ∃ (x : Addr) (ns : List Int), vs = [.ref x] ∧ ScrAt K H x (ns.map V.int) ∧ ∀ p H', H p = none → Same H H' → PoolOk K p 0 H' → Q (.ref p) H'
theorem atI0 {α : Type} {x : α} {r : List α} : atI (x :: r) 0 = some x := atI_nat (j := 0) rfl
theorem atI1 {α : Type} {x y : α} {r : List α} : atI (x :: y :: r) 1 = some y := atI_nat (j := 1) rfl
theorem atI2 {α : Type} {x y z : α} {r : List α} : atI (x :: y :: z :: r) 2 = some z := atI_nat (j := 2) rfl
theorem atI3 {α : Type} {x y z u : α} {r : List α} : atI (x :: y :: z :: u :: r) 3 = some u := atI_nat (j := 3) rfl
theorem atI4 {α : Type} {x y z u v : α} {r : List α} : atI (x :: y :: z :: u :: v :: r) 4 = some v := atI_nat (j := 4) rfl
/-! ## sets of questions by their ascending lists -/
def ask48 : List Int := (List.range 48).map fun i => ((i : Nat) : Int)
def norm (l : List Int) : List Int := ask48.filter fun x => decide (x ∈ l)
theorem mem_ask {x : Int} : x ∈ ask48 ↔ 0 ≤ x ∧ x < 48 := by
  unfold ask48
  rw [List.mem_map]
  constructor
  · rintro ⟨i, h, rfl⟩
    have := List.mem_range.mp h
    omega
  · rintro ⟨h0, h1⟩
    exact ⟨x.toNat, List.mem_range.mpr (by omega), by omega⟩
theorem mem_norm {l : List Int} {x : Int} : x ∈ norm l ↔ (0 ≤ x ∧ x < 48) ∧ x ∈ l := by
  unfold norm
  rw [List.mem_filter, mem_ask, decide_eq_true_eq]
theorem ask_sorted : ask48.Pairwise (· < ·) := by
  unfold ask48
  rw [List.pairwise_map]
  exact List.Pairwise.imp (fun h => by omega) List.pairwise_lt_range
theorem norm_sorted (l : List Int) : (norm l).Pairwise (· < ·) := ask_sorted.sublist List.filter_sublist
theorem norm_len (l : List Int) : (norm l).length ≤ 48 := by
  refine Nat.le_trans (List.length_filter_le _ _) ?_
  unfold ask48
  rw [List.length_map, List.length_range]
  exact Nat.le_refl _
theorem sorted_ext : ∀ {l l' : List Int}, l.Pairwise (· < ·) → l'.Pairwise (· < ·) → (∀ x, x ∈ l ↔ x ∈ l') → l = l'
  | [], [], _, _, _ => rfl
  | [], b :: r, _, _, h => absurd ((h b).mpr List.mem_cons_self) (by simp)
  | a :: r, [], _, _, h => absurd ((h a).mp List.mem_cons_self) (by simp)
  | a :: r, b :: s, h1, h2, h => by
    obtain ⟨ha, hr⟩ := List.pairwise_cons.mp h1
    obtain ⟨hb, hs⟩ := List.pairwise_cons.mp h2
    have e : a = b := by
      rcases List.mem_cons.mp ((h a).mp List.mem_cons_self) with e | e
      · exact e
      · rcases List.mem_cons.mp ((h b).mpr List.mem_cons_self) with e2 | e2
        · exact e2.symm
        · have := hb a e
          have := ha b e2
          omega
    subst e
    have : r = s := sorted_ext hr hs fun x => by
      constructor
      · intro hx
        rcases List.mem_cons.mp ((h x).mp (List.mem_cons_of_mem _ hx)) with e | e
        · have := ha x hx
          omega
        · exact e
      · intro hx
        rcases List.mem_cons.mp ((h x).mpr (List.mem_cons_of_mem _ hx)) with e | e
        · have := hb x hx
          omega
        · exact e
    rw [this]
theorem norm_ext {l l' : List Int} (h : ∀ x, 0 ≤ x → x < 48 → (x ∈ l ↔ x ∈ l')) : norm l = norm l' :=
  sorted_ext (norm_sorted l) (norm_sorted l') fun x => by
    rw [mem_norm, mem_norm]
    constructor
    · rintro ⟨a, b⟩; exact ⟨a, (h x a.1 a.2).mp b⟩
    · rintro ⟨a, b⟩; exact ⟨a, (h x a.1 a.2).mpr b⟩
theorem norm_of_sorted {l l' : List Int} (h : l.Pairwise (· < ·)) (hm : ∀ x, x ∈ l ↔ x ∈ l') (hr : ∀ x ∈ l', 0 ≤ x ∧ x < 48) : l = norm l' :=
  sorted_ext h (norm_sorted l') fun x => by
    rw [hm, mem_norm]
    exact ⟨fun a => ⟨hr x a, a⟩, fun a => a.2⟩
theorem norm_eq_iff {l l' : List Int} : norm l = norm l' ↔ ∀ x, 0 ≤ x → x < 48 → (x ∈ l ↔ x ∈ l') := by
  constructor
  · intro e x h0 h1
    have : x ∈ norm l ↔ x ∈ norm l' := by rw [e]
    rw [mem_norm, mem_norm] at this
    exact ⟨fun a => (this.mp ⟨⟨h0, h1⟩, a⟩).2, fun a => (this.mpr ⟨⟨h0, h1⟩, a⟩).2⟩
  · exact norm_ext
theorem norm_filter (l : List Int) (p : Int → Bool) : (norm l).filter p = norm (l.filter p) := by
  refine sorted_ext ((norm_sorted l).sublist List.filter_sublist) (norm_sorted _) fun x => ?_
  rw [List.mem_filter, mem_norm, mem_norm, List.mem_filter]
  constructor
  · rintro ⟨⟨a, b⟩, c⟩; exact ⟨a, b, c⟩
  · rintro ⟨a, b, c⟩; exact ⟨⟨a, b⟩, c⟩
theorem norm_norm (l : List Int) : norm (norm l) = norm l := norm_ext fun x h0 h1 => by
  rw [mem_norm]
  exact ⟨fun a => a.2, fun a => ⟨⟨h0, h1⟩, a⟩⟩
/-! ## values -/
theorem flat_ints (ns : List Int) : (ns.map V.int).all flatV = true := by
  rw [List.all_eq_true]
  intro x hx
  obtain ⟨i, _, rfl⟩ := List.mem_map.mp hx
  rfl
theorem eqV_int (i j : Int) : eqV (.int i) (.int j) = decide (i = j) := by
  show (i == j) = _
  rw [Bool.eq_iff_iff]
  simp
theorem in_ints (x : Int) (ns : List Int) : inV (.int x) (ns.map V.int) = decide (x ∈ ns) := by
  unfold inV
  rw [Bool.eq_iff_iff, List.any_eq_true, decide_eq_true_eq]
  constructor
  · rintro ⟨y, hy, e⟩
    obtain ⟨i, hi, rfl⟩ := List.mem_map.mp hy
    rw [eqV_int, decide_eq_true_eq] at e
    exact e ▸ hi
  · intro h
    exact ⟨.int x, List.mem_map.mpr ⟨x, h, rfl⟩, by rw [eqV_int, decide_eq_true_eq]⟩
theorem dpAll_ints {K : PySem.W.Frag} {H : Hp} : ∀ ns : List Int, DpAll K H (ns.map V.int) (ns.map PyData.int)
  | [] => .nil
  | n :: r => .cons (.int n) (dpAll_ints r)
theorem canLay_ints : ∀ ns : List Int, PyData.canLayAll0 (ns.map PyData.int) = true
  | [] => by rw [List.map_nil, PyData.canLayAll0]
  | n :: r => by
    rw [List.map_cons, PyData.canLayAll0, canLay_ints r]
    rfl
theorem depth_ints : ∀ ns : List Int, PyData.depthAll (ns.map PyData.int) = 0
  | [] => by rw [List.map_nil, PyData.depthAll]
  | n :: r => by
    rw [List.map_cons, PyData.depthAll, depth_ints r]
    rfl
theorem shT (ns : List Int) : SeqAt.shaped (.tuple (ns.map PyData.int)) = true := by
  simp [SeqAt.shaped, PyData.canLay0, canLay_ints, PyData.depth, depth_ints]
theorem shL (ns : List Int) : SeqAt.shaped (.list (ns.map PyData.int)) = true := by
  simp [SeqAt.shaped, PyData.canLay0, canLay_ints, PyData.depth, depth_ints]
theorem evT (ns ms : List Int) : PyData.eqv (.tuple (ns.map PyData.int)) (.tuple (ms.map PyData.int)) = decide (ns = ms) := by
  rw [PyData.eqv, PySem.W.ked_eqvAll]
theorem evL (ns ms : List Int) : PyData.eqv (.list (ns.map PyData.int)) (.list (ms.map PyData.int)) = decide (ns = ms) := by
  rw [PyData.eqv, PySem.W.ked_eqvAll]
theorem eqD_tup {K : PySem.W.Frag} {H : Hp} {a b : Addr} {ns ms : List Int} {Q : VK} (h1 : SqT K H a (ns.map V.int)) (h2 : SqT K H b (ms.map V.int)) (q : Q (.bl (decide (ns = ms))) H) : rEqD K (.ref a) (.ref b) H Q :=
  ⟨_, _, .tup h1 (dpAll_ints ns), .tup h2 (dpAll_ints ms), shT ns, shT ms, by rw [evT]; exact q⟩
theorem neD_tup {K : PySem.W.Frag} {H : Hp} {a b : Addr} {ns ms : List Int} {Q : VK} (h1 : SqT K H a (ns.map V.int)) (h2 : SqT K H b (ms.map V.int)) (q : Q (.bl (!decide (ns = ms))) H) : rNeD K (.ref a) (.ref b) H Q :=
  ⟨_, _, .tup h1 (dpAll_ints ns), .tup h2 (dpAll_ints ms), shT ns, shT ms, by rw [evT]; exact q⟩
theorem eqD_lst {K : PySem.W.Frag} {H : Hp} {a b : Addr} {ns ms : List Int} {Q : VK} (h1 : SqL K H a (ns.map V.int)) (h2 : SqL K H b (ms.map V.int)) (q : Q (.bl (decide (ns = ms))) H) : rEqD K (.ref a) (.ref b) H Q :=
  ⟨_, _, .lst h1 (dpAll_ints ns), .lst h2 (dpAll_ints ms), shL ns, shL ms, by rw [evL]; exact q⟩
theorem neD_lst {K : PySem.W.Frag} {H : Hp} {a b : Addr} {ns ms : List Int} {Q : VK} (h1 : SqL K H a (ns.map V.int)) (h2 : SqL K H b (ms.map V.int)) (q : Q (.bl (!decide (ns = ms))) H) : rNeD K (.ref a) (.ref b) H Q :=
  ⟨_, _, .lst h1 (dpAll_ints ns), .lst h2 (dpAll_ints ms), shL ns, shL ms, by rw [evL]; exact q⟩
/-! ## pupils -/
/-- at a a pupil whose rights are the ascending list of l -/
def PupAt (C : Addr) (H : Hp) (a : Addr) (l : List Int) : Prop := ∃ dx t, H a = some (.ins C dx [("rights", .ref t)]) ∧ H t = some (.tup ((norm l).map V.int))
theorem PupAt.same {C a : Addr} {H H' : Hp} {l : List Int} (e : Same H H') (h : PupAt C H a l) : PupAt C H' a l := by
  obtain ⟨dx, t, h1, h2⟩ := h
  exact ⟨dx, t, e _ _ h1, e _ _ h2⟩
theorem PupAt.gd {C a : Addr} {H H' : Hp} {l : List Int} (e : Gd H H') (h : PupAt C H a l) : PupAt C H' a l := by
  obtain ⟨dx, t, h1, h2⟩ := h
  exact ⟨dx, t, e.1 _ _ (np_ins _ _ _) h1, e.1 _ _ (np_tup _) h2⟩
theorem PupAt.eq {C a : Addr} {H : Hp} {l l' : List Int} (h : PupAt C H a l) (e : norm l = norm l') : PupAt C H a l' := by
  obtain ⟨dx, t, h1, h2⟩ := h
  exact ⟨dx, t, h1, by rw [← e]; exact h2⟩
/-- questions: each from 0 to 47 -/
def Qn (l : List Int) : Prop := ∀ k ∈ l, 0 ≤ k ∧ k < 48
def SqA (K : PySem.W.Frag) (H : Hp) (q : Addr) (xs : List V) : Prop := SqL K H q xs ∨ SqT K H q xs
def spInit (K : PySem.W.Frag) (C : Addr) : Sp := fun vs H Q _ => ∃ (x dx q : Addr) (l : List Int), vs = [.ref x, .ref q] ∧ H x = some (.ins C dx []) ∧ SqA K H q (l.map V.int) ∧ l.length ≤ 500 ∧ Qn l ∧
  ∀ H' t, H' x = some (.ins C dx [("rights", .ref t)]) → H' t = some (.tup ((norm l).map V.int)) → (∀ b o, b ≠ x → H b = some o → H' b = some o) → Q .non H'
theorem SqA.same {K : PySem.W.Frag} {H H' : Hp} {q : Addr} {xs : List V} (e : Same H H') (h : SqA K H q xs) : SqA K H' q xs := h.elim (fun h => .inl (e.seq h)) fun h => .inr (e.seqT h)
theorem pup_make {K : PySem.W.Frag} {C q : Addr} {H : Hp} {l : List Int} {R : Addr → Hp → Prop} {E : XK} (hq : SqA K H q (l.map V.int)) (hl : l.length ≤ 500) (hn : Qn l) (k : ∀ x H', H x = none → Same H H' → PupAt C H' x l → R x H') :
    ∀ x dx, H x = none → H dx = none → dx ≠ x → spInit K C (.ref x :: ([.ref q] ++ [])) (upd (upd H dx (.own x)) x (.ins C dx [])) (fun v H2 => v = .non ∧ R x H2) E := by
  intro x dx nx ndx ne
  have s0 : Same H (upd (upd H dx (.own x)) x (.ins C dx [])) := (same_upd ndx).mut nx
  refine ⟨x, dx, q, l, rfl, upd_same, hq.same s0, hl, hn, fun H' t h1 h2 h3 => ⟨rfl, k x H' nx (fun b o e => ?_) ⟨dx, t, h1, h2⟩⟩⟩
  exact h3 b o (ne_of_none e nx) (s0 b o e)
def spBin (C : Addr) (f : List Int → List Int → List Int) : Sp := fun vs H Q _ => ∃ (a b : Addr) (p q : List Int), vs = [.ref a, .ref b] ∧ PupAt C H a p ∧ PupAt C H b q ∧ ∀ x H', H x = none → Same H H' → PupAt C H' x (f p q) → Q (.ref x) H'
def spRel (C : Addr) (f : List Int → List Int → Bool) : Sp := fun vs H Q _ => ∃ (a b : Addr) (p q : List Int), vs = [.ref a, .ref b] ∧ PupAt C H a p ∧ PupAt C H b q ∧ ∀ H', Same H H' → Q (.bl (f (norm p) (norm q))) H'
def fOr (p q : List Int) : List Int := p ++ q
def fAnd (p q : List Int) : List Int := p.filter fun x => decide (x ∈ q)
def fSub (p q : List Int) : List Int := p.filter fun x => !decide (x ∈ q)
def fLe (p q : List Int) : Bool := p.all fun x => decide (x ∈ q)
def fEq (p q : List Int) : Bool := decide (p = q)
theorem norm_or (p q : List Int) : norm (norm p ++ norm q) = norm (p ++ q) := norm_ext fun x h0 h1 => by
  simp only [List.mem_append, mem_norm]
  exact ⟨fun h => h.elim (fun a => .inl a.2) fun a => .inr a.2, fun h => h.elim (fun a => .inl ⟨⟨h0, h1⟩, a⟩) fun a => .inr ⟨⟨h0, h1⟩, a⟩⟩
theorem qn_norm (l : List Int) : Qn (norm l) := fun k hk => (mem_norm.mp hk).1
theorem qn_append {l m : List Int} (h1 : Qn l) (h2 : Qn m) : Qn (l ++ m) := fun k hk => (List.mem_append.mp hk).elim (h1 k) (h2 k)
theorem qn_filter {l : List Int} {p : Int → Bool} (h1 : Qn l) : Qn (l.filter p) := fun k hk => h1 k (List.mem_filter.mp hk).1
/-- a comprehension over a list that keeps some of its ints as they are -/
theorem filter_take_succ {l : List Int} {p : Int → Bool} {i : Nat} {x : Int} (h : l[i]? = some x) : (l.take (i + 1)).filter p = (l.take i).filter p ++ (if p x = true then [x] else []) := by
  rw [List.take_add_one, h, List.filter_append]
  show _ ++ List.filter p [x] = _
  rw [List.filter_cons]
  rfl
theorem get_map_int {l : List Int} {i : Nat} {v : V} (h : (l.map V.int)[i]? = some v) : ∃ x, l[i]? = some x ∧ v = .int x := by
  rw [List.getElem?_map] at h
  cases e : l[i]? with
  | none => rw [e] at h; cases h
  | some x => rw [e] at h; exact ⟨x, rfl, (Option.some.inj h).symm⟩
theorem catA_k {K : PySem.W.Frag} {H : Hp} {a b : Addr} {xs ys : List V} {Q : VK} (h1 : SqT K H a xs) (h2 : SqT K H b ys) (hl : xs.length + ys.length ≤ sizeLine) (k : ∀ p H', Same H H' → SqT K H' p (xs ++ ys) → Q (.ref p) H') : rCatA K (.ref a) (.ref b) H Q := by
  refine ⟨a, b, xs, ys, rfl, rfl, h1, h2, hl, fun e => ?_, fun _ e => ?_, fun _ _ p hp => k p _ (same_upd hp) (.inl (.inl upd_same))⟩
  · subst e
    exact k b H (Same.refl H) h2
  · subst e
    exact k a H (Same.refl H) (by rw [List.append_nil]; exact h1)
section
variable {K : PySem.W.Frag} {a : Addr} {tt : TT} {te : TE} {vs : List Nat} {σ : St} {H1 : Hp} {D : Addr} {Qd : Hp → Prop} {j : Nat}
/-- one turn of a comprehension that keeps some ints as they are -/
theorem filt_turn {ns : List Int} {p : Int → Bool} {i : Nat} {x : Int} {H : Hp} (nD : H1 D = none) (hlen : ns.length < 100000) (hx : ns[i]? = some x)
    (ht : ∀ H', Same H1 H' → ∀ R : Bool → Hp → Prop, R (p x) H' → tt ((wipe σ vs).set j (some (.int x))) H' R) (he : ∀ H', Same H1 H' → ∀ R : VK, R (.int x) H' → te ((wipe σ vs).set j (some (.int x))) H' R)
    (h : Same H1 H ∧ H D = some (.lst (((ns.take i).filter p).map V.int))) :
    tt ((wipe σ vs).set j (some (.int x))) H fun b H3 => if b = true then te ((wipe σ vs).set j (some (.int x))) H3 fun y H4 => ∃ acc, H4 D = some (.lst acc) ∧ acc.length < sizeLine ∧ (Same H1 (upd H4 D (.lst (acc ++ [y]))) ∧ upd H4 D (.lst (acc ++ [y])) D = some (.lst (((ns.take (i + 1)).filter p).map V.int)))
      else (Same H1 H3 ∧ H3 D = some (.lst (((ns.take (i + 1)).filter p).map V.int))) := by
  obtain ⟨e, hD⟩ := h
  refine ht H e _ ?_
  have ef := filter_take_succ (p := p) hx
  cases hp : p x with
  | true =>
    rw [hp] at ef
    refine iteT (he H e _ ⟨_, hD, ?_, e.mut nD, ?_⟩)
    · rw [List.length_map]
      have h1 := List.length_filter_le p (ns.take i)
      have h2 := List.length_take_le i ns
      have h3 : (ns.take i).length ≤ ns.length := by rw [List.length_take]; exact Nat.min_le_right _ _
      rw [sizeLine_eq]; omega
    · rw [upd_same, ef, List.map_append]
      rfl
  | false =>
    rw [hp] at ef
    refine iteF ⟨e, ?_⟩
    rw [ef, if_neg (by decide), List.append_nil]
    exact hD
def lcT_filter {ns : List Int} (p : Int → Bool) (hs : SqT K H1 a (ns.map V.int)) (nD : H1 D = none) (hlen : ns.length < 100000) (hw : ∀ x, wipe ((wipe σ vs).set j (some x)) vs = wipe σ vs)
    (ht : ∀ x ∈ ns, ∀ H', Same H1 H' → ∀ R : Bool → Hp → Prop, R (p x) H' → tt ((wipe σ vs).set j (some (.int x))) H' R) (he : ∀ x ∈ ns, ∀ H', Same H1 H' → ∀ R : VK, R (.int x) H' → te ((wipe σ vs).set j (some (.int x))) H' R)
    (k : ∀ H', Same H1 H' → H' D = some (.lst ((ns.filter p).map V.int)) → Qd H') := 
  lc_tup (K := K) (a := a) (xs := ns.map V.int) (g := gName j) (tt := tt) (te := te) (vs := vs) (σ := σ) (H1 := H1) (D := D) (Qd := Qd) (fun i H => Same H1 H ∧ H D = some (.lst (((ns.take i).filter p).map V.int))) ⟨same_upd nD, upd_same⟩ (fun i H _ h => h.1.seqT hs)
    (fun i y H hi h => by
      obtain ⟨x, hx, rfl⟩ := get_map_int hi
      have hm := List.mem_of_getElem? hx
      exact ⟨hw _, filt_turn nD hlen hx (ht x hm) (he x hm) h⟩)
    (fun H h => k H h.1 (by have := h.2; rw [List.length_map, List.take_length] at this; exact this))
def lcL_filter {ns : List Int} (p : Int → Bool) (hs : SqL K H1 a (ns.map V.int)) (nD : H1 D = none) (hlen : ns.length < 100000) (hw : ∀ x, wipe ((wipe σ vs).set j (some x)) vs = wipe σ vs)
    (ht : ∀ x ∈ ns, ∀ H', Same H1 H' → ∀ R : Bool → Hp → Prop, R (p x) H' → tt ((wipe σ vs).set j (some (.int x))) H' R) (he : ∀ x ∈ ns, ∀ H', Same H1 H' → ∀ R : VK, R (.int x) H' → te ((wipe σ vs).set j (some (.int x))) H' R)
    (k : ∀ H', Same H1 H' → H' D = some (.lst ((ns.filter p).map V.int)) → Qd H') := 
  lc_list (K := K) (a := a) (xs := ns.map V.int) (g := gName j) (tt := tt) (te := te) (vs := vs) (σ := σ) (H1 := H1) (D := D) (Qd := Qd) (fun i H => Same H1 H ∧ H D = some (.lst (((ns.take i).filter p).map V.int))) ⟨same_upd nD, upd_same⟩ (fun i H _ h => h.1.seq hs)
    (fun i y H hi h => by
      obtain ⟨x, hx, rfl⟩ := get_map_int hi
      have hm := List.mem_of_getElem? hx
      exact ⟨hw _, filt_turn nD hlen hx (ht x hm) (he x hm) h⟩)
    (fun H h => k H h.1 (by have := h.2; rw [List.length_map, List.take_length] at this; exact this))
def rgI (n : Nat) : List Int := (List.range n).map fun i => ((i : Nat) : Int)
theorem rgI_get {n i : Nat} (h : i < n) : (rgI n)[i]? = some (i : Int) := by
  unfold rgI
  rw [List.getElem?_map, List.getElem?_range h]
  rfl
theorem rgI_length (n : Nat) : (rgI n).length = n := by unfold rgI; rw [List.length_map, List.length_range]
theorem mem_rgI {n : Nat} {x : Int} : x ∈ rgI n ↔ 0 ≤ x ∧ x < n := by
  unfold rgI
  rw [List.mem_map]
  constructor
  · rintro ⟨i, h, rfl⟩
    have := List.mem_range.mp h
    omega
  · rintro ⟨h0, h1⟩
    exact ⟨x.toNat, List.mem_range.mpr (by omega), by omega⟩
def lcR_filter {n : Nat} (p : Int → Bool) (nD : H1 D = none) (hlen : n < 100000) (hw : ∀ x, wipe ((wipe σ vs).set j (some x)) vs = wipe σ vs)
    (ht : ∀ x ∈ rgI n, ∀ H', Same H1 H' → ∀ R : Bool → Hp → Prop, R (p x) H' → tt ((wipe σ vs).set j (some (.int x))) H' R) (he : ∀ x ∈ rgI n, ∀ H', Same H1 H' → ∀ R : VK, R (.int x) H' → te ((wipe σ vs).set j (some (.int x))) H' R)
    (k : ∀ H', Same H1 H' → H' D = some (.lst (((rgI n).filter p).map V.int)) → Qd H') := 
  lc_range (lo := 0) (n := n) (g := gName j) (tt := tt) (te := te) (vs := vs) (σ := σ) (H1 := H1) (D := D) (Qd := Qd) (fun i H => Same H1 H ∧ H D = some (.lst ((((rgI n).take i).filter p).map V.int))) ⟨same_upd nD, upd_same⟩
    (fun i H hi h => by
      have hx := rgI_get hi
      have hm := List.mem_of_getElem? hx
      have e0 : (0 : Int) + ((i : Nat) : Int) = (i : Int) := Int.zero_add _
      rw [e0]
      exact ⟨hw _, filt_turn nD (by rw [rgI_length]; exact hlen) hx (ht _ hm) (he _ hm) h⟩)
    (fun H h => k H h.1 (by have := h.2; rw [List.take_of_length_le (by rw [rgI_length]; exact Nat.le_refl n)] at this; exact this))
theorem in_k {K : PySem.W.Frag} {neg : Bool} {x : Int} {q : Addr} {ns : List Int} {H : Hp} {Q : VK} (h : SqL K H q (ns.map V.int) ∨ SqT K H q (ns.map V.int)) (k : Q (.bl (if neg then !decide (x ∈ ns) else decide (x ∈ ns))) H) : rIn K neg (.int x) (.ref q) H Q :=
  ⟨q, _, rfl, h, rfl, flat_ints ns, by rw [in_ints]; exact k⟩
theorem tup_of {K : PySem.W.Frag} {H : Hp} {q : Addr} {xs : List V} (h : H q = some (.tup xs)) : SqT K H q xs := .inl (.inl h)
theorem lst_of {K : PySem.W.Frag} {H : Hp} {q : Addr} {xs : List V} (h : H q = some (.lst xs)) : SqL K H q xs := .inl (.inl h)
end
def Draws (K : PySem.W.Frag) (p : Addr) (c : Nat) (H H' : Hp) : Prop := Gd H H' ∧ PoolOk K p c H'
/-- _law_some: a new list of fewer than m questions -/
def spSome (K : PySem.W.Frag) : Sp := fun vs H Q _ => ∃ (p : Addr) (c : Nat) (m : Int), vs = [.ref p, .int m] ∧ PoolOk K p c H ∧ c + 200 < LIM ∧ 0 < m ∧ m ≤ 100 ∧
  ∀ H' D l, H D = none → Gd H H' → PoolOk K p (c + 200) H' → H' D = some (.lst (l.map V.int)) → Qn l → (l.length : Int) < m → Q (.ref D) H'
/-- _law_set: the ascending list -/
def spSet (K : PySem.W.Frag) : Sp := fun vs H Q _ => ∃ (q : Addr) (l : List Int), vs = [.ref q] ∧ SqL K H q (l.map V.int) ∧
  ∀ H' D, H D = none → Same H H' → H' D = some (.lst ((norm l).map V.int)) → Q (.ref D) H'
theorem ask_rg : ask48 = rgI 48 := rfl
theorem norm_rg (l : List Int) : (rgI 48).filter (fun x => decide (x ∈ l)) = norm l := rfl
theorem own_bin {C x y : Addr} {f : List Int → List Int → List Int} {l m : List Int} {H : Hp} {Q : VK} {E : XK} (px : PupAt C H x l) (py : PupAt C H y m) (k : ∀ z H', H z = none → Same H H' → PupAt C H' z (f l m) → Q (.ref z) H') :
    rOwn C (spBin C f) E (.ref x) (.ref y) H Q := by
  obtain ⟨dx, t, hx, _⟩ := id px
  obtain ⟨dy, u, hy, _⟩ := id py
  exact ⟨x, y, dx, dy, _, _, rfl, rfl, hx, hy, x, y, l, m, rfl, px, py, k⟩
theorem own_rel {C x y : Addr} {f : List Int → List Int → Bool} {l m : List Int} {H : Hp} {Q : VK} {E : XK} (px : PupAt C H x l) (py : PupAt C H y m) (k : ∀ H', Same H H' → Q (.bl (f (norm l) (norm m))) H') :
    rOwn C (spRel C f) E (.ref x) (.ref y) H Q := by
  obtain ⟨dx, t, hx, _⟩ := id px
  obtain ⟨dy, u, hy, _⟩ := id py
  exact ⟨x, y, dx, dy, _, _, rfl, rfl, hx, hy, x, y, l, m, rfl, px, py, k⟩
theorem fld_rights {K : PySem.W.Frag} {C x : Addr} {l : List Int} {H : Hp} {Q : VK} (px : PupAt C H x l) (c : Cls K C) (n : NoAttr K C "rights") (k : ∀ t, H t = some (.tup ((norm l).map V.int)) → Q (.ref t) H) :
    ∃ a C dx fs v, V.ref x = .ref a ∧ H a = some (.ins C dx fs) ∧ Cls K C ∧ NoAttr K C "rights" ∧ fs.lookup ("rights" : Str) = some v ∧ Q v H := by
  obtain ⟨dx, t, hx, ht⟩ := px
  exact ⟨x, C, dx, _, .ref t, rfl, hx, c, n, rfl, k t ht⟩
/-! the pure facts -/
theorem le_within {l m : List Int} (h1 : Qn l) : fLe (norm l) (norm m) = decide (l.filter (fun x => !decide (x ∈ m)) = []) := by
  rw [Bool.eq_iff_iff]
  unfold fLe
  rw [List.all_eq_true, decide_eq_true_eq, List.filter_eq_nil_iff]
  constructor
  · intro h x hx
    have := h x (mem_norm.mpr ⟨h1 x hx, hx⟩)
    rw [decide_eq_true_eq, mem_norm] at this
    simp [this.2]
  · intro h x hx
    obtain ⟨a, b⟩ := mem_norm.mp hx
    have := h x b
    rw [decide_eq_true_eq, mem_norm]
    exact ⟨a, by simpa using this⟩
theorem or_within {l m : List Int} (h1 : Qn l) : fEq (norm (fOr l m)) (norm m) = decide (l.filter (fun x => !decide (x ∈ m)) = []) := by
  rw [Bool.eq_iff_iff]
  unfold fEq fOr
  rw [decide_eq_true_eq, decide_eq_true_eq, List.filter_eq_nil_iff, norm_eq_iff]
  constructor
  · intro h x hx
    have := (h x (h1 x hx).1 (h1 x hx).2).mp (List.mem_append.mpr (.inl hx))
    simp [this]
  · intro h x h0 h1
    rw [List.mem_append]
    exact ⟨fun a => a.elim (fun b => by simpa using h x b) id, .inr⟩
theorem and_within {l m : List Int} (h1 : Qn l) : fEq (norm (fAnd l m)) (norm l) = decide (l.filter (fun x => !decide (x ∈ m)) = []) := by
  rw [Bool.eq_iff_iff]
  unfold fEq fAnd
  rw [decide_eq_true_eq, decide_eq_true_eq, List.filter_eq_nil_iff, norm_eq_iff]
  constructor
  · intro h x hx
    have := (h x (h1 x hx).1 (h1 x hx).2).mpr hx
    rw [List.mem_filter] at this
    simp [of_decide_eq_true this.2]
  · intro h x h0 h1
    rw [List.mem_filter]
    exact ⟨fun a => a.1, fun a => ⟨a, by simpa using h x a⟩⟩
theorem le_or (l m : List Int) : fLe (norm l) (norm (fOr l m)) = true := by
  unfold fLe fOr
  rw [List.all_eq_true]
  intro x hx
  obtain ⟨a, b⟩ := mem_norm.mp hx
  exact decide_eq_true (mem_norm.mpr ⟨a, List.mem_append.mpr (.inl b)⟩)
theorem le_and (l m : List Int) : fLe (norm (fAnd l m)) (norm m) = true := by
  unfold fLe fAnd
  rw [List.all_eq_true]
  intro x hx
  obtain ⟨a, b⟩ := mem_norm.mp hx
  exact decide_eq_true (mem_norm.mpr ⟨a, of_decide_eq_true (List.mem_filter.mp b).2⟩)
theorem sub_and (l m : List Int) : norm (fAnd (fSub l m) m) = [] := by
  unfold norm fAnd fSub
  rw [List.filter_eq_nil_iff]
  intro x _ h
  have h := of_decide_eq_true h
  rw [List.mem_filter, List.mem_filter] at h
  obtain ⟨⟨_, h2⟩, h3⟩ := h
  have := of_decide_eq_true h3
  simp [this] at h2
theorem sub_or_and (l m : List Int) : norm (fOr (fSub l m) (fAnd l m)) = norm l := norm_ext fun x h0 h1 => by
  unfold fOr fSub fAnd
  rw [List.mem_append, List.mem_filter, List.mem_filter]
  by_cases h : x ∈ m <;> simp [h]
theorem and_set (l m : List Int) : norm (fAnd l m) = (norm l).filter fun x => decide (x ∈ m) := by
  unfold fAnd
  rw [norm_filter]
theorem sub_set (l m : List Int) : norm (fSub l m) = (norm l).filter fun x => !decide (x ∈ m) := by
  unfold fSub
  rw [norm_filter]
theorem ne_false {l m : List Int} (e : l = m) : (!decide (l = m)) = false := by simp [e]
def spPair (K : PySem.W.Frag) : Sp := fun vs H Q _ => ∃ (o t : Addr) (l m : List Int), vs = [.ref o, .ref t] ∧ H o = some (.lst (l.map V.int)) ∧ H t = some (.lst (m.map V.int)) ∧ Qn l ∧ Qn m ∧ l.length ≤ 200 ∧ m.length ≤ 200 ∧ ∀ H', Same H H' → Q (.bl true) H'
theorem kit_bool {K : PySem.W.Frag} : PySem.W.kitOne K (.type "bool") (.type "bool") = some true := kit_ty (by decide +kernel)
theorem dec_self (b : Bool) : (!decide (V.bl b = V.bl b)) = false := by simp
theorem rg_ints (n : Nat) : rgV 0 (n : Int) = (rgI n).map V.int := by
  unfold rgV rgI
  rw [List.map_map, Int.sub_zero, Int.toNat_natCast]
  refine List.map_congr_left fun i _ => ?_
  show V.int (0 + (i : Int)) = V.int (i : Int)
  rw [Int.zero_add]
/-- a list of questions at r -/
def QsAt (H : Hp) (r : Addr) (l : List Int) : Prop := H r = some (.lst (l.map V.int)) ∧ Qn l ∧ l.length ≤ 200
theorem QsAt.gd {H H' : Hp} {r : Addr} {l : List Int} (e : Gd H H') (h : QsAt H r l) : QsAt H' r l := ⟨e.1 _ _ (np_ints l) h.1, h.2⟩
theorem QsAt.same {H H' : Hp} {r : Addr} {l : List Int} (e : Same H H') (h : QsAt H r l) : QsAt H' r l := h.gd e.gd
theorem two_at {x y : V} {r : Int} (h0 : 0 ≤ r) (h1 : r < 2) : atI [x, y] r = some (if r = 0 then x else y) := by
  rcases (show r = 0 ∨ r = 1 by omega) with e | e
  · subst e; exact atI0
  · subst e; exact atI1
/-! ## a pupil beside the ascending list of its questions -/
theorem np_refs (xs : List Addr) : ¬ isPool (.lst (xs.map V.ref)) := by
  rintro ⟨a, c, i, b, s, h⟩
  cases xs with
  | nil => cases h
  | cons x r =>
    injection h with h
    injection h with _ h
    cases r with
    | nil => cases h
    | cons y r => injection h with h _; cases h
def Pr (C : Addr) (H : Hp) (x y : Addr) : Prop := ∃ l, PupAt C H x l ∧ H y = some (.lst ((norm l).map V.int))
theorem Pr.same {C x y : Addr} {H H' : Hp} (e : Same H H') (h : Pr C H x y) : Pr C H' x y := let ⟨l, a, b⟩ := h; ⟨l, a.same e, e _ _ b⟩
theorem Pr.gd {C x y : Addr} {H H' : Hp} (e : Gd H H') (h : Pr C H x y) : Pr C H' x y := let ⟨l, a, b⟩ := h; ⟨l, a.gd e, e.1 _ _ (np_ints _) b⟩
theorem PupAt.mut {C x q : Addr} {H : Hp} {l : List Int} {zs : List V} {o : HO} (hq : H q = some (.lst zs)) (h : PupAt C H x l) : PupAt C (upd H q o) x l := by
  obtain ⟨dx, t, h1, h2⟩ := h
  exact ⟨dx, t, by rw [upd_ne (ne_of h1 hq (by intro z; cases z))]; exact h1, by rw [upd_ne (ne_of h2 hq (by intro z; cases z))]; exact h2⟩
theorem Pr.mut {C x y q : Addr} {H : Hp} {zs : List V} {o : HO} (hq : H q = some (.lst zs)) (ne : y ≠ q) (h : Pr C H x y) : Pr C (upd H q o) x y := let ⟨l, a, b⟩ := h; ⟨l, a.mut hq, by rw [upd_ne ne]; exact b⟩
theorem Pr.ne {C x y q z : Addr} {H : Hp} {zs : List V} (h : Pr C H x y) (hq : H q = some (.lst (.ref z :: zs))) : y ≠ q := by
  obtain ⟨l, a, b⟩ := h
  refine ne_of b hq fun e => ?_
  injection e with e
  cases hn : norm l with
  | nil => rw [hn] at e; cases e
  | cons u r => rw [hn] at e; injection e with e _; cases e
def Tri (C : Addr) (H : Hp) (PL SL : Addr) (xs ys : List Addr) : Prop := H PL = some (.lst (xs.map V.ref)) ∧ H SL = some (.lst (ys.map V.ref)) ∧ xs.length = 3 ∧ ys.length = 3 ∧ ∀ (k : Nat) x y, xs[k]? = some x → ys[k]? = some y → Pr C H x y
theorem Tri.gd {C PL SL : Addr} {H H' : Hp} {xs ys : List Addr} (e : Gd H H') (h : Tri C H PL SL xs ys) : Tri C H' PL SL xs ys :=
  ⟨e.1 _ _ (np_refs _) h.1, e.1 _ _ (np_refs _) h.2.1, h.2.2.1, h.2.2.2.1, fun k x y a b => (h.2.2.2.2 k x y a b).gd e⟩
theorem at_ref {xs : List Addr} {r : Int} (h0 : 0 ≤ r) (h1 : r < (xs.length : Int)) : ∃ (j : Nat) (x : Addr), xs[j]? = some x ∧ r = (j : Int) ∧ j < xs.length ∧ atI (xs.map V.ref) r = some (.ref x) := by
  obtain ⟨j, rfl⟩ : ∃ j : Nat, r = (j : Int) := ⟨r.toNat, by omega⟩
  have hj : j < xs.length := by omega
  refine ⟨j, xs[j], List.getElem?_eq_getElem hj, rfl, hj, atI_nat ?_⟩
  rw [List.getElem?_map, List.getElem?_eq_getElem hj]
  rfl
theorem get3 {xs : List Addr} {j : Nat} (h : xs.length = 3) (hj : j < 3) : ∃ x, xs[j]? = some x := ⟨xs[j]'(by omega), List.getElem?_eq_getElem _⟩
def spHas (C : Addr) : Sp := fun vs H Q _ => ∃ (a : Addr) (p : List Int) (z : Int), vs = [.ref a, .int z] ∧ PupAt C H a p ∧ Q (.bl (decide (z ∈ norm p))) H
def spLen (C : Addr) : Sp := fun vs H Q _ => ∃ (a : Addr) (p : List Int), vs = [.ref a] ∧ PupAt C H a p ∧ Q (.int ((norm p).length : Nat)) H
def spAdded (C : Addr) : Sp := fun vs H Q _ => ∃ (a : Addr) (p : List Int) (z : Int), vs = [.ref a, .int z] ∧ PupAt C H a p ∧ 0 ≤ z ∧ z < 48 ∧ ∀ x H', H x = none → Same H H' → PupAt C H' x (p ++ [z]) → Q (.ref x) H'
def spAfter (K : PySem.W.Frag) (C : Addr) : Sp := fun vs H Q _ => ∃ (p PL SL : Addr) (c : Nat) (xs ys : List Addr), vs = [.ref p, .ref PL, .ref SL] ∧ PoolOk K p c H ∧ c + 100 < LIM ∧ Tri C H PL SL xs ys ∧
  ∀ H' t x y, Gd H H' → PoolOk K p (c + 100) H' → H' t = some (.tup [.ref x, .ref y]) → H y = none → Pr C H' x y → Q (.ref t) H'
def spRight (C : Addr) : Sp := fun vs H Q _ => ∃ (PL SL : Addr) (xs ys : List Addr), vs = [.ref PL, .ref SL] ∧ Tri C H PL SL xs ys ∧ ∀ H', Same H H' → Q (.bl true) H'
theorem own_has {C x : Addr} {neg : Bool} {z : Int} {p : List Int} {H : Hp} {Q : VK} {E : XK} (px : PupAt C H x p) (k : Q (.bl (if neg then !decide (z ∈ norm p) else decide (z ∈ norm p))) H) : rOwnIn C (spHas C) E neg (.int z) (.ref x) H Q := by
  obtain ⟨dx, t, hx, _⟩ := id px
  exact ⟨x, dx, _, rfl, hx, x, p, z, rfl, px, _, rfl, k⟩
theorem own_len {C x : Addr} {p : List Int} {H : Hp} {Q : VK} {E : XK} (px : PupAt C H x p) (k : Q (.int ((norm p).length : Nat)) H) : rOwnLen C (spLen C) E [.ref x] H Q := by
  obtain ⟨dx, t, hx, _⟩ := id px
  have := norm_len p
  exact ⟨x, dx, _, rfl, hx, x, p, rfl, px, _, rfl, by omega, by omega, k⟩
theorem le_listW (l m : List Int) : fLe (norm l) (norm m) = decide ((norm l).filter (fun x => !decide (x ∈ norm m)) = []) := by
  have := le_within (m := norm m) (qn_norm l)
  rw [norm_norm, norm_norm] at this
  exact this
theorem dpAll_bls {K : PySem.W.Frag} {H : Hp} : ∀ bs : List Bool, DpAll K H (bs.map V.bl) (bs.map PyData.bool)
  | [] => .nil
  | n :: r => .cons (.bl n) (dpAll_bls r)
theorem canLay_bls : ∀ ns : List Bool, PyData.canLayAll0 (ns.map PyData.bool) = true
  | [] => by rw [List.map_nil, PyData.canLayAll0]
  | n :: r => by
    rw [List.map_cons, PyData.canLayAll0, canLay_bls r]
    rfl
theorem depth_bls : ∀ ns : List Bool, PyData.depthAll (ns.map PyData.bool) = 0
  | [] => by rw [List.map_nil, PyData.depthAll]
  | n :: r => by
    rw [List.map_cons, PyData.depthAll, depth_bls r]
    rfl
theorem shB (ns : List Bool) : SeqAt.shaped (.list (ns.map PyData.bool)) = true := by
  simp [SeqAt.shaped, PyData.canLay0, canLay_bls, PyData.depth, depth_bls]
theorem evAll_bls : ∀ ns : List Bool, PyData.eqvAll (ns.map PyData.bool) (ns.map PyData.bool) = true
  | [] => by rw [List.map_nil, PyData.eqvAll]
  | n :: r => by
    rw [List.map_cons, PyData.eqvAll, evAll_bls r]
    cases n <;> simp [PyData.eqv]
theorem neD_bls {K : PySem.W.Frag} {H : Hp} {a b : Addr} {ns : List Bool} {Q : VK} (h1 : SqL K H a (ns.map V.bl)) (h2 : SqL K H b (ns.map V.bl)) (q : Q (.bl false) H) : rNeD K (.ref a) (.ref b) H Q :=
  ⟨_, _, .lst h1 (dpAll_bls ns), .lst h2 (dpAll_bls ns), shB ns, shB ns, by rw [PyData.eqv, evAll_bls]; exact q⟩
theorem take_get {α : Type} {l : List α} {i : Nat} {x : α} (h : l[i]? = some x) : l.take (i + 1) = l.take i ++ [x] := by
  rw [List.take_add_one, h]
  rfl
end L2

namespace K05
open PySem PySem.Spec PyProof.Rows L2
def topS (i : Nat) : Stmt := PySem.Challenge.pw_steppedtests_k05_pupil_operators.main.body.getD i (.Pass ⟨0, 0, 0, 0⟩)
abbrev s_is_question : Stmt := topS 6
abbrev N_is_question : List Str := ["number"]
abbrev P_is_question : List Str := ["number"]
theorem sc_is_question : FnScope N_is_question P_is_question (defScope s_is_question) := ⟨rfl, rfl, rfl, by decide +kernel, rfl, by decide +kernel, by decide +kernel⟩
abbrev s_Pupil_init : Stmt := inClass (topS 7) 0
abbrev N_Pupil_init : List Str := ["self", "questions", "taken", "question"]
abbrev P_Pupil_init : List Str := ["self", "questions"]
theorem sc_Pupil_init : FnScope N_Pupil_init P_Pupil_init (defScope s_Pupil_init) := ⟨rfl, rfl, rfl, by decide +kernel, rfl, by decide +kernel, by decide +kernel⟩
abbrev s_Pupil_le : Stmt := inClass (topS 7) 1
abbrev N_Pupil_le : List Str := ["self", "other", "question"]
abbrev P_Pupil_le : List Str := ["self", "other"]
theorem sc_Pupil_le : FnScope N_Pupil_le P_Pupil_le (defScope s_Pupil_le) := ⟨rfl, rfl, rfl, by decide +kernel, rfl, by decide +kernel, by decide +kernel⟩
abbrev s_Pupil_or : Stmt := inClass (topS 7) 2
abbrev N_Pupil_or : List Str := ["self", "other"]
abbrev P_Pupil_or : List Str := ["self", "other"]
theorem sc_Pupil_or : FnScope N_Pupil_or P_Pupil_or (defScope s_Pupil_or) := ⟨rfl, rfl, rfl, by decide +kernel, rfl, by decide +kernel, by decide +kernel⟩
abbrev s_Pupil_and : Stmt := inClass (topS 7) 3
abbrev N_Pupil_and : List Str := ["self", "other", "question"]
abbrev P_Pupil_and : List Str := ["self", "other"]
theorem sc_Pupil_and : FnScope N_Pupil_and P_Pupil_and (defScope s_Pupil_and) := ⟨rfl, rfl, rfl, by decide +kernel, rfl, by decide +kernel, by decide +kernel⟩
abbrev s_Pupil_sub : Stmt := inClass (topS 7) 4
abbrev N_Pupil_sub : List Str := ["self", "other", "question"]
abbrev P_Pupil_sub : List Str := ["self", "other"]
theorem sc_Pupil_sub : FnScope N_Pupil_sub P_Pupil_sub (defScope s_Pupil_sub) := ⟨rfl, rfl, rfl, by decide +kernel, rfl, by decide +kernel, by decide +kernel⟩
abbrev s_Pupil_eq : Stmt := inClass (topS 7) 7
abbrev N_Pupil_eq : List Str := ["self", "other"]
abbrev P_Pupil_eq : List Str := ["self", "other"]
theorem sc_Pupil_eq : FnScope N_Pupil_eq P_Pupil_eq (defScope s_Pupil_eq) := ⟨rfl, rfl, rfl, by decide +kernel, rfl, by decide +kernel, by decide +kernel⟩
abbrev s_l_pool : Stmt := topS 9
abbrev N_l_pool : List Str := ["_law_script"]
abbrev P_l_pool : List Str := ["_law_script"]
theorem sc_l_pool : FnScope N_l_pool P_l_pool (defScope s_l_pool) := ⟨rfl, rfl, rfl, by decide +kernel, rfl, by decide +kernel, by decide +kernel⟩
abbrev s_l_draw : Stmt := topS 10
abbrev N_l_draw : List Str := ["_law_pool_here", "_law_limit", "_law_cell", "_law_digit", "_law_mixed"]
abbrev P_l_draw : List Str := ["_law_pool_here", "_law_limit"]
theorem sc_l_draw : FnScope N_l_draw P_l_draw (defScope s_l_draw) := ⟨rfl, rfl, rfl, by decide +kernel, rfl, by decide +kernel, by decide +kernel⟩
abbrev s_l_some : Stmt := topS 11
abbrev N_l_some : List Str := ["_law_pool_here", "_law_most", "_law_k"]
abbrev P_l_some : List Str := ["_law_pool_here", "_law_most"]
theorem sc_l_some : FnScope N_l_some P_l_some (defScope s_l_some) := ⟨rfl, rfl, rfl, by decide +kernel, rfl, by decide +kernel, by decide +kernel⟩
abbrev s_l_set : Stmt := topS 12
abbrev N_l_set : List Str := ["_law_questions", "_law_name"]
abbrev P_l_set : List Str := ["_law_questions"]
theorem sc_l_set : FnScope N_l_set P_l_set (defScope s_l_set) := ⟨rfl, rfl, rfl, by decide +kernel, rfl, by decide +kernel, by decide +kernel⟩
abbrev s_l_pair : Stmt := topS 13
abbrev N_l_pair : List Str := ["_law_one", "_law_two", "_law_a", "_law_b", "_law_within", "_law_name"]
abbrev P_l_pair : List Str := ["_law_one", "_law_two"]
theorem sc_l_pair : FnScope N_l_pair P_l_pair (defScope s_l_pair) := ⟨rfl, rfl, rfl, by decide +kernel, rfl, by decide +kernel, by decide +kernel⟩
abbrev s_law : Stmt := topS 14
abbrev N_law : List Str := ["_law_script", "_law_pool_here", "_law_one", "_law_two", "_law_way", "_law_other", "_law_name"]
abbrev P_law : List Str := ["_law_script"]
theorem sc_law : FnScope N_law P_law (defScope s_law) := ⟨rfl, rfl, rfl, by decide +kernel, rfl, by decide +kernel, by decide +kernel⟩
structure Ad where
  c_Pupil : Addr
  f_is_question : Addr
  d_is_question : FuncData
  f_Pupil_init : Addr
  d_Pupil_init : FuncData
  f_Pupil_le : Addr
  d_Pupil_le : FuncData
  f_Pupil_or : Addr
  d_Pupil_or : FuncData
  f_Pupil_and : Addr
  d_Pupil_and : FuncData
  f_Pupil_sub : Addr
  d_Pupil_sub : FuncData
  f_Pupil_eq : Addr
  d_Pupil_eq : FuncData
  f_l_pool : Addr
  d_l_pool : FuncData
  f_l_draw : Addr
  d_l_draw : FuncData
  f_l_some : Addr
  d_l_some : FuncData
  f_l_set : Addr
  d_l_set : FuncData
  f_l_pair : Addr
  d_l_pair : FuncData
  f_law : Addr
  d_law : FuncData
  t_QUESTIONS : Tok
structure Txt (K : PySem.W.Frag) (mg : Str → Option Value) (a : Ad) : Prop where
  g_Pupil : mg "Pupil" = some (.ref a.c_Pupil)
  cl_Pupil : Cls K a.c_Pupil
  mk_Pupil : Mk K a.c_Pupil a.f_Pupil_init
  nA_Pupil_rights : NoAttr K a.c_Pupil "rights"
  sf_Pupil : PySem.W.selfFirst K a.c_Pupil = true
  ic_Pupil : PySem.W.findIn K (.ref a.c_Pupil) "__class__" = some (some (.builtin "object.__class__")) ∧ PySem.W.specialIn K (.builtin "object.__class__") "__get__" = some (some (.builtin "getset_descriptor.__get__")) ∧ PySem.W.takesIn K (.builtin "object.__class__") = some true ∧ PySem.W.mroIn K a.c_Pupil (.type "object") = some true
  is_Pupil : PySem.W.kitOne K (.ref a.c_Pupil) (.ref a.c_Pupil) = some true
  F_is_question : Fun K "is_question" "is_question" s_is_question a.f_is_question a.d_is_question
  b_is_question : Binds K a.d_is_question P_is_question []
  k_is_question : PySem.W.keepIn K (.ref a.f_is_question) = true
  g_is_question : mg "is_question" = some (.ref a.f_is_question)
  F_Pupil_init : Fun K "__init__" "Pupil.__init__" s_Pupil_init a.f_Pupil_init a.d_Pupil_init
  b_Pupil_init : Binds K a.d_Pupil_init P_Pupil_init []
  k_Pupil_init : PySem.W.keepIn K (.ref a.f_Pupil_init) = true
  i_Pupil_init : PySem.W.isFn K (.ref a.f_Pupil_init) = true
  F_Pupil_le : Fun K "__le__" "Pupil.__le__" s_Pupil_le a.f_Pupil_le a.d_Pupil_le
  b_Pupil_le : Binds K a.d_Pupil_le P_Pupil_le []
  k_Pupil_le : PySem.W.keepIn K (.ref a.f_Pupil_le) = true
  i_Pupil_le : PySem.W.isFn K (.ref a.f_Pupil_le) = true
  s_Pupil_le : PySem.W.findIn K (.ref a.c_Pupil) "__le__" = some (some (.ref a.f_Pupil_le))
  F_Pupil_or : Fun K "__or__" "Pupil.__or__" s_Pupil_or a.f_Pupil_or a.d_Pupil_or
  b_Pupil_or : Binds K a.d_Pupil_or P_Pupil_or []
  k_Pupil_or : PySem.W.keepIn K (.ref a.f_Pupil_or) = true
  i_Pupil_or : PySem.W.isFn K (.ref a.f_Pupil_or) = true
  s_Pupil_or : PySem.W.findIn K (.ref a.c_Pupil) "__or__" = some (some (.ref a.f_Pupil_or))
  F_Pupil_and : Fun K "__and__" "Pupil.__and__" s_Pupil_and a.f_Pupil_and a.d_Pupil_and
  b_Pupil_and : Binds K a.d_Pupil_and P_Pupil_and []
  k_Pupil_and : PySem.W.keepIn K (.ref a.f_Pupil_and) = true
  i_Pupil_and : PySem.W.isFn K (.ref a.f_Pupil_and) = true
  s_Pupil_and : PySem.W.findIn K (.ref a.c_Pupil) "__and__" = some (some (.ref a.f_Pupil_and))
  F_Pupil_sub : Fun K "__sub__" "Pupil.__sub__" s_Pupil_sub a.f_Pupil_sub a.d_Pupil_sub
  b_Pupil_sub : Binds K a.d_Pupil_sub P_Pupil_sub []
  k_Pupil_sub : PySem.W.keepIn K (.ref a.f_Pupil_sub) = true
  i_Pupil_sub : PySem.W.isFn K (.ref a.f_Pupil_sub) = true
  s_Pupil_sub : PySem.W.findIn K (.ref a.c_Pupil) "__sub__" = some (some (.ref a.f_Pupil_sub))
  F_Pupil_eq : Fun K "__eq__" "Pupil.__eq__" s_Pupil_eq a.f_Pupil_eq a.d_Pupil_eq
  b_Pupil_eq : Binds K a.d_Pupil_eq P_Pupil_eq []
  k_Pupil_eq : PySem.W.keepIn K (.ref a.f_Pupil_eq) = true
  i_Pupil_eq : PySem.W.isFn K (.ref a.f_Pupil_eq) = true
  s_Pupil_eq : PySem.W.findIn K (.ref a.c_Pupil) "__eq__" = some (some (.ref a.f_Pupil_eq))
  F_l_pool : Fun K "_law_pool" "_law_pool" s_l_pool a.f_l_pool a.d_l_pool
  b_l_pool : Binds K a.d_l_pool P_l_pool []
  k_l_pool : PySem.W.keepIn K (.ref a.f_l_pool) = true
  g_l_pool : mg "_law_pool" = some (.ref a.f_l_pool)
  F_l_draw : Fun K "_law_draw" "_law_draw" s_l_draw a.f_l_draw a.d_l_draw
  b_l_draw : Binds K a.d_l_draw P_l_draw []
  k_l_draw : PySem.W.keepIn K (.ref a.f_l_draw) = true
  g_l_draw : mg "_law_draw" = some (.ref a.f_l_draw)
  F_l_some : Fun K "_law_some" "_law_some" s_l_some a.f_l_some a.d_l_some
  b_l_some : Binds K a.d_l_some P_l_some []
  k_l_some : PySem.W.keepIn K (.ref a.f_l_some) = true
  g_l_some : mg "_law_some" = some (.ref a.f_l_some)
  F_l_set : Fun K "_law_set" "_law_set" s_l_set a.f_l_set a.d_l_set
  b_l_set : Binds K a.d_l_set P_l_set []
  k_l_set : PySem.W.keepIn K (.ref a.f_l_set) = true
  g_l_set : mg "_law_set" = some (.ref a.f_l_set)
  F_l_pair : Fun K "_law_pair" "_law_pair" s_l_pair a.f_l_pair a.d_l_pair
  b_l_pair : Binds K a.d_l_pair P_l_pair []
  k_l_pair : PySem.W.keepIn K (.ref a.f_l_pair) = true
  g_l_pair : mg "_law_pair" = some (.ref a.f_l_pair)
  F_law : Fun K "law" "law" s_law a.f_law a.d_law
  b_law : Binds K a.d_law P_law []
  k_law : PySem.W.keepIn K (.ref a.f_law) = true
  g_law : mg "law" = some (.ref a.f_law)
  g_QUESTIONS : mg "QUESTIONS" = some (.int 48 a.t_QUESTIONS)
  z_abs : mg "abs" = none
  z_all : mg "all" = none
  z_bool : mg "bool" = none
  z_int : mg "int" = none
  z_isinstance : mg "isinstance" = none
  z_len : mg "len" = none
  z_list : mg "list" = none
  z_range : mg "range" = none
  z_set : mg "set" = none
  z_sorted : mg "sorted" = none
  z_tuple : mg "tuple" = none
section
variable {P : Program} {w : World} {K : PySem.W.Frag} {mg : Str → Option Value} {base : Heap} {a : Ad}
def spIsQ : Sp := fun vs H Q _ => ∃ n : Int, vs = [.int n] ∧ Q (.bl (decide (0 ≤ n ∧ n < 48))) H
theorem ok_is_question (T : Txt K mg a) : FnOk P w K mg base CX0 1 a.f_is_question a.d_is_question P_is_question spIsQ := by
  refine T.F_is_question.ok sc_is_question (fun vs H Q E h => ?_) (fun cdv A outer s H vs Q E hr h => ?_)
  · obtain ⟨n, rfl, _⟩ := h
    rfl
  · obtain ⟨n, rfl, q⟩ := h
    refine ⟨_, (pss_one (ps_ret (pe_chain op_le op_lt pe_int (pv 0) (pe_glob (v := .int 48) (by rfl) T.g_QUESTIONS ⟨_, rfl⟩)))), ?_⟩
    refine ⟨_, rfl, _, _, rfl, rfl, _, rfl, ?_⟩
    by_cases h0 : (0 : Int) ≤ n
    · rw [decide_eq_true h0]
      refine iteT ⟨_, _, rfl, rfl, ?_⟩
      show Q (.bl (decide (n < 48))) H
      rw [show decide (n < 48) = decide (0 ≤ n ∧ n < 48) by rw [Bool.eq_iff_iff]; simp [h0]]
      exact q
    · rw [decide_eq_false h0]
      refine iteF ?_
      rw [show decide (0 ≤ n ∧ n < 48) = false by simp [h0]] at q
      exact q
theorem ok_Pupil_init (T : Txt K mg a) : FnOk P w K mg base CX0 2 a.f_Pupil_init a.d_Pupil_init P_Pupil_init (spInit K a.c_Pupil) := by
  refine T.F_Pupil_init.ok sc_Pupil_init (fun vs H Q E h => ?_) (fun cdv A outer s H vs Q E hr h => ?_)
  · obtain ⟨x, dx, q, l, rfl, _⟩ := h
    rfl
  · obtain ⟨x, dx, q, l, rfl, hx, hq, hl, hn, k⟩ := h
    refine ⟨_, (Evl.pss_cut (ps_set (i := 2) sc_Pupil_init.nd rfl (Or.inl rfl) (pe_callTy call_tuple_of (by rfl) T.z_tuple (by decide +kernel) (pa_cons (pv 1) pa_nil)))
  (Evl.pss_cut (ps_for PassesOwn.never rfl (pi_tup (pv 2)) (pg_name (i := 3) sc_Pupil_init.nd rfl (Or.inl rfl))
    (pss_one (ps_if (pt_not (pt_val (pe_call (ok_is_question T) (hr.mono (by decide)) (by rfl) T.g_is_question T.k_is_question T.b_is_question .nil pass0 (pa_cons (pv 3) pa_nil))))
    (pss_one ps_never)
    pss_nil)))
  (pss_one (ps_fld (pv 0) (pe_callTy call_tuple_of (by rfl) T.z_tuple (by decide +kernel) (pa_cons (pe_callB (cr_sortedSet rfl) (by rfl) T.z_sorted (by decide +kernel) (pa_cons (pe_callTy (cr_setOf rfl) (by rfl) T.z_set (by decide +kernel) (pa_cons (pv 2) pa_nil)) pa_nil)) pa_nil)) rfl)))), ?_⟩
    refine ⟨fun σ H1 => ∃ t, σ = [some (.ref x), some (.ref q), some (.ref t), none] ∧ Same H H1 ∧ SqT K H1 t (l.map V.int), ?_, ?_⟩
    · refine ⟨_, rfl, q, l.map V.int, rfl, ?_⟩
      rcases hq with hq | hq
      · exact .inl ⟨hq, fun t ht => ⟨t, rfl, same_upd ht, .inl (.inl upd_same)⟩⟩
      · exact .inr ⟨hq, ⟨q, rfl, Same.refl _, hq⟩⟩
    · rintro σ H1 ⟨t, rfl, e1, ht⟩
      refine ⟨fun σ H2 => ∃ v, σ = [some (.ref x), some (.ref q), some (.ref t), v] ∧ Same H H2 ∧ SqT K H2 t (l.map V.int), ?_, ?_⟩
      · refine ⟨_, rfl, t, rfl, ⟨_, ht⟩, for_tup (K := K) (a := t) (xs := l.map V.int) (fun i σ H2 => ∃ v, σ = [some (.ref x), some (.ref q), some (.ref t), v] ∧ Same H H2 ∧ SqT K H2 t (l.map V.int)) ⟨none, rfl, e1, ht⟩ (fun i σ H2 _ ⟨_, _, _, h⟩ => h) ?_ ?_⟩
        · rintro i y σ H2 hi ⟨v, rfl, e2, ht2⟩
          obtain ⟨z, hz, rfl⟩ := get_map_int hi
          have hz2 := hn z (List.mem_of_getElem? hz)
          refine ⟨_, rfl, z, rfl, ?_⟩
          rw [decide_eq_true hz2]
          refine ⟨_, rfl, ?_⟩
          exact iteF ⟨_, rfl, e2, ht2⟩
        · rintro σ H2 ⟨v, rfl, e2, ht2⟩
          exact ⟨v, rfl, e2, ht2⟩
      · rintro σ H2 ⟨v, rfl, e2, ht2⟩
        refine ⟨_, rfl, t, l, rfl, ht2, by omega, fun p c np hc hL => ?_⟩
        have hc48 : c ≤ 48 := by
          have := hL ask48 fun k hk => mem_ask.mpr (hn k hk)
          unfold ask48 at this
          rw [List.length_map, List.length_range] at this
          exact this
        refine ⟨p, _, c, rfl, upd_same, by omega, fun ns r hs hm hlen nr => ?_⟩
        have ens : ns = norm l := norm_of_sorted hs (fun x => by rw [hm, decide_eq_true_eq]) hn
        subst ens
        refine ⟨r, _, rfl, .inl ⟨.inl (.inl upd_same), fun t2 nt2 => ?_⟩⟩
        have s2 : Same H2 (upd (upd (upd H2 p (SetO w p (fun j => decide (j ∈ l)) c)) r (.lst ((norm l).map V.int))) t2 (.tup ((norm l).map V.int))) := ((same_upd np).trans (same_upd nr)).trans (same_upd nt2)
        have hx2 := s2 _ _ (e2 _ _ hx)
        have nx : t2 ≠ x := (ne_of_none ((same_upd nr) _ _ ((same_upd np) _ _ (e2 _ _ hx))) nt2).symm
        refine ⟨_, rfl, x, _, dx, [], rfl, hx2, T.cl_Pupil, T.nA_Pupil_rights, by decide, ?_⟩
        refine k _ t2 upd_same ?_ fun b o hb e => ?_
        · rw [upd_ne nx, upd_same]
        · rw [upd_ne hb]
          exact s2 _ _ (e2 _ _ e)
theorem ok_Pupil_or (T : Txt K mg a) : FnOk P w K mg base CX0 4 a.f_Pupil_or a.d_Pupil_or P_Pupil_or (spBin a.c_Pupil fOr) := by
  refine T.F_Pupil_or.ok sc_Pupil_or (fun vs H Q E h => ?_) (fun cdv A outer s H vs Q E hr h => ?_)
  · obtain ⟨x, y, p, q, rfl, _⟩ := h
    rfl
  · obtain ⟨x, y, p, q, rfl, pa, pb, k⟩ := h
    obtain ⟨dx, t, hx, ht⟩ := id pa
    obtain ⟨dy, u, hy, hu⟩ := id pb
    refine ⟨_, (pss_one (ps_ret (pe_make T.mk_Pupil (ok_Pupil_init T) (hr.mono (by decide)) (by rfl) T.g_Pupil T.b_Pupil_init .nil pass0 (pa_cons (pe_op op_catA (pe_fld (pv 0) (by rfl)) (pe_fld (pv 1) (by rfl))) pa_nil)))), ?_⟩
    refine ⟨_, rfl, x, _, dx, _, _, rfl, hx, T.cl_Pupil, T.nA_Pupil_rights, rfl, _, rfl, y, _, dy, _, _, rfl, hy, T.cl_Pupil, T.nA_Pupil_rights, rfl, ?_⟩
    refine catA_k (tup_of ht) (tup_of hu) ?_ fun r H1 e1 hr1 => ?_
    · rw [List.length_map, List.length_map, sizeLine_eq]
      have := norm_len p
      have := norm_len q
      omega
    · rw [← List.map_append] at hr1
      refine pup_make (.inr hr1) ?_ (qn_append (qn_norm _) (qn_norm _)) fun z H2 nz e2 pz => k z H2 (e1.free nz) (e1.trans e2) (pz.eq (norm_or p q))
      rw [List.length_append]
      have := norm_len p
      have := norm_len q
      omega
theorem ok_Pupil_and (T : Txt K mg a) : FnOk P w K mg base CX0 4 a.f_Pupil_and a.d_Pupil_and P_Pupil_and (spBin a.c_Pupil fAnd) := by
  refine T.F_Pupil_and.ok sc_Pupil_and (fun vs H Q E h => ?_) (fun cdv A outer s H vs Q E hr h => ?_)
  · obtain ⟨x, y, p, q, rfl, _⟩ := h
    rfl
  · obtain ⟨x, y, p, q, rfl, pa, pb, k⟩ := h
    obtain ⟨dx, t, hx, ht⟩ := id pa
    obtain ⟨dy, u, hy, hu⟩ := id pb
    refine ⟨_, (pss_one (ps_ret (pe_make T.mk_Pupil (ok_Pupil_init T) (hr.mono (by decide)) (by rfl) T.g_Pupil T.b_Pupil_init .nil pass0 (pa_cons (pe_lc (own := [("question", 2)]) (g := gName 2) (tt := (tTest (tOp (rIn K false) (tVar 2) (tFld K (tVar 1) "rights")))) (te := (tVar 2)) rfl sc_Pupil_and.nd (pi_tup (pe_fld (pv 0) (by rfl))) (blkOk_by (N := N_Pupil_and) (sc := defScope s_Pupil_and) (by decide +kernel)) (fun _ _ _ _ _ => pg_name (i := 2) sc_Pupil_and.nd rfl (Or.inl rfl)) (fun _ _ _ _ _ => by exact (pts_one (pt_cmpR op_in_seq (pv 2) (pe_fld (pv 1) (by rfl)) (by with_unfolding_all rfl)))) (fun _ _ _ _ _ => by exact (pv 2))) pa_nil)))), ?_⟩
    refine ⟨_, rfl, x, _, dx, _, _, rfl, hx, T.cl_Pupil, T.nA_Pupil_rights, rfl, t, rfl, ⟨_, tup_of ht⟩, fun D nD => lcT_filter (K := K) (ns := norm p) (fun z => decide (z ∈ norm q)) (tup_of ht) nD (by have := norm_len p; omega) (fun _ => rfl) ?_ ?_ ?_⟩
    · intro z hz H' e' R r
      exact ⟨_, rfl, _, rfl, y, _, dy, _, _, rfl, e' _ _ hy, T.cl_Pupil, T.nA_Pupil_rights, rfl, in_k (.inr (tup_of (e' _ _ hu))) ⟨_, rfl, r⟩⟩
    · intro z hz H' e' R r
      exact ⟨_, rfl, r⟩
    · intro H1 e1 h1
      refine pup_make (.inl (lst_of h1)) ?_ (qn_filter (qn_norm _)) fun z H2 nz e2 pz => k z H2 (e1.free nz) (e1.trans e2) (pz.eq ?_)
      · have := norm_len p
        have := List.length_filter_le (fun z => decide (z ∈ norm q)) (norm p)
        omega
      · rw [norm_filter, norm_norm]
        refine norm_ext fun z h0 h1 => ?_
        simp only [fAnd, List.mem_filter, mem_norm, Bool.not_eq_true', decide_eq_true_eq, decide_eq_false_iff_not, h0, h1, true_and]
theorem ok_Pupil_sub (T : Txt K mg a) : FnOk P w K mg base CX0 4 a.f_Pupil_sub a.d_Pupil_sub P_Pupil_sub (spBin a.c_Pupil fSub) := by
  refine T.F_Pupil_sub.ok sc_Pupil_sub (fun vs H Q E h => ?_) (fun cdv A outer s H vs Q E hr h => ?_)
  · obtain ⟨x, y, p, q, rfl, _⟩ := h
    rfl
  · obtain ⟨x, y, p, q, rfl, pa, pb, k⟩ := h
    obtain ⟨dx, t, hx, ht⟩ := id pa
    obtain ⟨dy, u, hy, hu⟩ := id pb
    refine ⟨_, (pss_one (ps_ret (pe_make T.mk_Pupil (ok_Pupil_init T) (hr.mono (by decide)) (by rfl) T.g_Pupil T.b_Pupil_init .nil pass0 (pa_cons (pe_lc (own := [("question", 2)]) (g := gName 2) (tt := (tTest (tOp (rIn K true) (tVar 2) (tFld K (tVar 1) "rights")))) (te := (tVar 2)) rfl sc_Pupil_sub.nd (pi_tup (pe_fld (pv 0) (by rfl))) (blkOk_by (N := N_Pupil_sub) (sc := defScope s_Pupil_sub) (by decide +kernel)) (fun _ _ _ _ _ => pg_name (i := 2) sc_Pupil_sub.nd rfl (Or.inl rfl)) (fun _ _ _ _ _ => by exact (pts_one (pt_cmpR op_notIn_seq (pv 2) (pe_fld (pv 1) (by rfl)) (by with_unfolding_all rfl)))) (fun _ _ _ _ _ => by exact (pv 2))) pa_nil)))), ?_⟩
    refine ⟨_, rfl, x, _, dx, _, _, rfl, hx, T.cl_Pupil, T.nA_Pupil_rights, rfl, t, rfl, ⟨_, tup_of ht⟩, fun D nD => lcT_filter (K := K) (ns := norm p) (fun z => !decide (z ∈ norm q)) (tup_of ht) nD (by have := norm_len p; omega) (fun _ => rfl) ?_ ?_ ?_⟩
    · intro z hz H' e' R r
      exact ⟨_, rfl, _, rfl, y, _, dy, _, _, rfl, e' _ _ hy, T.cl_Pupil, T.nA_Pupil_rights, rfl, in_k (.inr (tup_of (e' _ _ hu))) ⟨_, rfl, r⟩⟩
    · intro z hz H' e' R r
      exact ⟨_, rfl, r⟩
    · intro H1 e1 h1
      refine pup_make (.inl (lst_of h1)) ?_ (qn_filter (qn_norm _)) fun z H2 nz e2 pz => k z H2 (e1.free nz) (e1.trans e2) (pz.eq ?_)
      · have := norm_len p
        have := List.length_filter_le (fun z => !decide (z ∈ norm q)) (norm p)
        omega
      · rw [norm_filter, norm_norm]
        refine norm_ext fun z h0 h1 => ?_
        simp only [fSub, List.mem_filter, mem_norm, Bool.not_eq_true', decide_eq_true_eq, decide_eq_false_iff_not, h0, h1, true_and]
theorem ok_Pupil_le (T : Txt K mg a) : FnOk P w K mg base CX0 4 a.f_Pupil_le a.d_Pupil_le P_Pupil_le (spRel a.c_Pupil fLe) := by
  refine T.F_Pupil_le.ok sc_Pupil_le (fun vs H Q E h => ?_) (fun cdv A outer s H vs Q E hr h => ?_)
  · obtain ⟨x, y, p, q, rfl, _⟩ := h
    rfl
  · obtain ⟨x, y, p, q, rfl, pa, pb, k⟩ := h
    obtain ⟨dx, t, hx, ht⟩ := id pa
    obtain ⟨dy, u, hy, hu⟩ := id pb
    refine ⟨_, (pss_one (ps_ret (pe_callB (cr_all rfl) (by rfl) T.z_all (by decide +kernel) (pa_cons (pe_lc (own := [("question", 2)]) (g := gName 2) (tt := tYes) (te := (tOp (rIn K false) (tVar 2) (tFld K (tVar 1) "rights"))) rfl sc_Pupil_le.nd (pi_tup (pe_fld (pv 0) (by rfl))) (blkOk_by (N := N_Pupil_le) (sc := defScope s_Pupil_le) (by decide +kernel)) (fun _ _ _ _ _ => pg_name (i := 2) sc_Pupil_le.nd rfl (Or.inl rfl)) (fun _ _ _ _ _ => pts_nil) (fun _ _ _ _ _ => by exact (pe_cmpR op_in_seq (pv 2) (pe_fld (pv 1) (by rfl)) (by with_unfolding_all rfl)))) pa_nil)))), ?_⟩
    refine ⟨_, rfl, x, _, dx, _, _, rfl, hx, T.cl_Pupil, T.nA_Pupil_rights, rfl, t, rfl, ⟨_, tup_of ht⟩, fun D nD => ?_⟩
    refine lc_tup (K := K) (a := t) (xs := (norm p).map V.int) (fun i H1 => Same H H1 ∧ H1 D = some (.lst ((((norm p).take i).map fun z => decide (z ∈ norm q)).map V.bl))) ⟨same_upd nD, upd_same⟩ (fun i H1 _ h => h.1.seqT (tup_of ht)) (fun i v H1 hi h => ?_) (fun H1 h => ?_)
    · obtain ⟨z, hz, rfl⟩ := get_map_int hi
      obtain ⟨e1, h1⟩ := h
      refine ⟨rfl, tyes ?_⟩
      refine ⟨_, rfl, _, rfl, y, _, dy, _, _, rfl, e1 _ _ hy, T.cl_Pupil, T.nA_Pupil_rights, rfl, in_k (.inr (tup_of (e1 _ _ hu))) ⟨_, h1, ?_, e1.mut nD, ?_⟩⟩
      · rw [List.length_map, List.length_map, List.length_take, sizeLine_eq]
        have := norm_len p
        omega
      · rw [upd_same, List.take_add_one, hz, List.map_append, List.map_append]
        rfl
    · obtain ⟨e1, h1⟩ := h
      rw [List.length_map, List.take_length] at h1
      refine ⟨D, _, rfl, lst_of h1, ?_⟩
      have ee : ((norm p).map fun z => decide (z ∈ norm q)).all id = fLe (norm p) (norm q) := by
        unfold fLe
        rw [List.all_map]
        rfl
      rw [ee]
      exact k H1 e1
theorem ok_Pupil_eq (T : Txt K mg a) : FnOk P w K mg base CX0 4 a.f_Pupil_eq a.d_Pupil_eq P_Pupil_eq (spRel a.c_Pupil fEq) := by
  refine T.F_Pupil_eq.ok sc_Pupil_eq (fun vs H Q E h => ?_) (fun cdv A outer s H vs Q E hr h => ?_)
  · obtain ⟨x, y, p, q, rfl, _⟩ := h
    rfl
  · obtain ⟨x, y, p, q, rfl, pa, pb, k⟩ := h
    obtain ⟨dx, t, hx, ht⟩ := id pa
    obtain ⟨dy, u, hy, hu⟩ := id pb
    refine ⟨_, (pss_one (ps_ret (pe_and (pe_callB call_isi (by rfl) T.z_isinstance (by decide +kernel) (pa_cons (pv 1) (pa_cons (pe_glob (v := .ref a.c_Pupil) (by rfl) T.g_Pupil rfl) pa_nil))) (pe_one (pe_cmpR (op_eqD hr.units) (pe_fld (pv 0) (by rfl)) (pe_fld (pv 1) (by rfl)) (nomark _)))))), ?_⟩
    refine ⟨_, rfl, _, .ref a.c_Pupil, _, _, true, rfl, .own _, .base (.ins hy T.cl_Pupil T.ic_Pupil.1 T.ic_Pupil.2.1 T.ic_Pupil.2.2.1 T.ic_Pupil.2.2.2), T.is_Pupil, _, rfl, iteT ?_⟩
    refine ⟨_, rfl, x, _, dx, _, _, rfl, hx, T.cl_Pupil, T.nA_Pupil_rights, rfl, _, rfl, y, _, dy, _, _, rfl, hy, T.cl_Pupil, T.nA_Pupil_rights, rfl, ?_⟩
    exact eqD_tup (tup_of ht) (tup_of hu) (k H (Same.refl H))
theorem ok_l_pool (T : Txt K mg a) : FnOk P w K mg base CX0 1 a.f_l_pool a.d_l_pool P_l_pool (spPool K) := by
  refine T.F_l_pool.ok sc_l_pool (fun vs H Q E h => ?_) (fun cdv A outer s H vs Q E hr h => ?_)
  · obtain ⟨x, ns, rfl, _⟩ := h
    rfl
  · obtain ⟨x, ns, rfl, hx, k⟩ := h
    refine ⟨_, (pss_one (ps_ret (pe_lst (pa_cons (pv 0) (pa_cons pe_int (pa_cons pe_int (pa_cons pe_int (pa_cons pe_int pa_nil)))))))), ?_⟩
    refine ⟨_, rfl, by show 5 ≤ sizeLine; decide, fun p hp => ?_⟩
    exact k p _ hp (same_upd hp) ⟨x, ns, 0, 0, 0, 7, hx.gd (same_upd hp).gd, upd_same, by omega, by omega, by omega, by omega, by omega, by omega, by omega⟩
theorem ok_l_draw (T : Txt K mg a) : FnOk P w K mg base CX0 1 a.f_l_draw a.d_l_draw P_l_draw (spDraw K) := by
  refine T.F_l_draw.ok sc_l_draw (fun vs H Q E h => ?_) (fun cdv A outer s H vs Q E hr h => ?_)
  · obtain ⟨p, c, lim, rfl, _⟩ := h
    rfl
  · obtain ⟨p, c, lim, rfl, ⟨sa, ns, c', i, b, st, hsa, hp, c0, c1, i0, i1, b0, s0, s1⟩, hc, l0, l1, k⟩ := h
    refine ⟨_, (Evl.pss_cut (ps_asg (pe_op op_add (pe_ix ix_list (pv 0) pe_int (by intro _ _; rfl)) pe_int) (pg_sub (pv 0) pe_int set_list))
  (Evl.pss_cut (ps_if (PW.pt (pw_and (pt_cmpR op_eq (pe_ix ix_list (pv 0) pe_int (by intro _ _; rfl)) pe_int (nomark _)) (pw_and1 (pt_cmpR op_lt (pe_ix ix_list (pv 0) pe_int (by intro _ _; rfl)) (pe_callB call_len_seq (by rfl) T.z_len (by decide +kernel) (pa_cons (pe_ix ix_list (pv 0) pe_int (by intro _ _; rfl)) pa_nil)) (nomark _)))))
    (pss_cons (ps_set (i := 2) sc_l_draw.nd rfl (Or.inl rfl) (pe_callB call_abs (by rfl) T.z_abs (by decide +kernel) (pa_cons (pe_ix ix_list (pe_ix ix_list (pv 0) pe_int (by intro _ _; rfl)) (pe_ix ix_list (pv 0) pe_int (by intro _ _; rfl)) (by intro _ _; rfl)) pa_nil)))
  (pss_cons (ps_asg (pe_op op_add (pe_ix ix_list (pv 0) pe_int (by intro _ _; rfl)) pe_int) (pg_sub (pv 0) pe_int set_list))
  (pss_one (ps_if (pt_cmpR op_ge (pv 2) (pe_op op_pow pe_int pe_int) (nomark _))
    (pss_one (ps_asg (pv 2) (pg_sub (pv 0) pe_int set_list)))
    (pss_one (ps_asg (pe_op op_mod (pe_callTy call_int1 (by rfl) T.z_int (by decide +kernel) (pa_cons (pe_op op_mul (pe_op op_add (pe_op op_add (pe_ix ix_list (pv 0) pe_int (by intro _ _; rfl)) (pv 2)) pe_int) pe_int) pa_nil)) pe_int) (pg_sub (pv 0) pe_int set_list)))))))
    pss_nil)
  (pss_cons (ps_if (pt_cmpR op_gt (pe_ix ix_list (pv 0) pe_int (by intro _ _; rfl)) pe_int (nomark _))
    (pss_cons (ps_set (i := 3) sc_l_draw.nd rfl (Or.inl rfl) (pe_op op_mod (pe_callTy call_int1 (by rfl) T.z_int (by decide +kernel) (pa_cons (pe_ix ix_list (pv 0) pe_int (by intro _ _; rfl)) pa_nil)) (pv 1)))
  (pss_cons (ps_asg (pe_op op_fdivW (pe_ix ix_list (pv 0) pe_int (by intro _ _; rfl)) (pv 1)) (pg_sub (pv 0) pe_int set_list))
  (pss_one (ps_ret (pv 3)))))
    pss_nil)
  (pss_cons (ps_set (i := 4) sc_l_draw.nd rfl (Or.inl rfl) (pe_op op_mod (pe_callTy call_int1 (by rfl) T.z_int (by decide +kernel) (pa_cons (pe_op op_pow (pe_op op_add (pe_ix ix_list (pv 0) pe_int (by intro _ _; rfl)) (pe_op op_mul (pe_ix ix_list (pv 0) pe_int (by intro _ _; rfl)) pe_int)) pe_int) pa_nil)) pe_int))
  (pss_one (ps_ret (pe_op op_mod (pe_callTy call_int1 (by rfl) T.z_int (by decide +kernel) (pa_cons (pe_op op_fdivW (pv 4) pe_int) pa_nil)) (pv 1)))))))), ?_⟩
    have hp : H p = some (pl sa c' i b st) := hp
    -- pool[1] = pool[1] + 1
    refine ⟨fun σ H1 => σ = [some (.ref p), some (.int lim), none, none, none] ∧ H1 = upd H p (pl sa (c' + 1) i b st), ?_, ?_⟩
    · exact ⟨_, rfl, p, _, 1, _, rfl, rfl, lst_of hp, atI1, c', 1, rfl, rfl, _, rfl, p, _, 1, 1, rfl, rfl, hp, rfl, rfl, rfl⟩
    · rintro σ H1 ⟨rfl, rfl⟩
      -- the cell
      refine ⟨fun σ H2 => ∃ (i' b' st' : Int) (v : Option V), σ = [some (.ref p), some (.int lim), v, none, none] ∧ H2 = upd H p (pl sa (c' + 1) i' b' st') ∧ 0 ≤ i' ∧ i' ≤ (ns.length : Int) ∧ 0 ≤ b' ∧ 0 ≤ st' ∧ st' < 2147483629, ?_, ?_⟩
      · have hP : upd H p (pl sa (c' + 1) i b st) p = some (pl sa (c' + 1) i b st) := upd_same
        have hS : SqL K (upd H p (pl sa (c' + 1) i b st)) sa (ns.map V.int) := (hsa.gd (gd_pool hp)).seq
        refine ⟨_, rfl, p, _, 3, _, rfl, rfl, lst_of hP, atI3, rfl, _, rfl, ?_⟩
        refine ite2 (fun e1 => ?_) (fun e1 => ?_)
        · refine ⟨_, rfl, p, _, 2, _, rfl, rfl, lst_of hP, atI2, _, rfl, p, _, 0, _, rfl, rfl, lst_of hP, atI0, sa, _, rfl, .inl hS, i, _, rfl, rfl, _, rfl, ?_⟩
          refine ite2 (fun e2 => ?_) (fun e2 => ?_)
          · have hi : i < (ns.length : Int) := by
              have := of_decide_eq_true e2
              rw [List.length_map] at this
              exact this
            obtain ⟨j, rfl⟩ : ∃ j : Nat, i = (j : Int) := ⟨i.toNat, by omega⟩
            have hj : j < ns.length := by omega
            have hg : (ns.map V.int)[j]? = some (.int ns[j]) := by
              rw [List.getElem?_map, List.getElem?_eq_getElem hj]
              rfl
            -- cell = abs(pool[0][pool[2]])
            refine ⟨_, rfl, p, _, 0, _, rfl, rfl, lst_of hP, atI0, _, rfl, p, _, 2, _, rfl, rfl, lst_of hP, atI2, sa, _, (j : Int), _, rfl, rfl, hS, atI_nat hg, _, rfl, ?_⟩
            -- pool[2] = pool[2] + 1
            refine ⟨_, rfl, p, _, 2, _, rfl, rfl, lst_of hP, atI2, (j : Int), 1, rfl, rfl, _, rfl, p, _, 2, 2, rfl, rfl, hP, rfl, ?_⟩
            have hP2 : upd (upd H p (pl sa (c' + 1) (j : Int) b st)) p (pl sa (c' + 1) ((j : Int) + 1) b st) p = some (pl sa (c' + 1) ((j : Int) + 1) b st) := upd_same
            have c0' : 0 ≤ (if ns[j] < 0 then -ns[j] else ns[j]) := by split <;> omega
            refine ⟨_, rfl, _, 18, rfl, rfl, ⟨by decide, by decide, by decide⟩, _, _, rfl, rfl, _, rfl, ?_⟩
            refine ite2 (fun e3 => ?_) (fun e3 => ?_)
            · refine ⟨_, rfl, _, rfl, p, _, 3, 3, rfl, rfl, hP2, rfl, ?_⟩
              refine ⟨(j : Int) + 1, _, st, _, rfl, ?_, by omega, by omega, c0', s0, s1⟩
              rw [upd_upd, upd_upd]
              rfl
            · have hlt : (if ns[j] < 0 then -ns[j] else ns[j]) < 10 ^ (18 : Int).toNat := by
                refine Int.not_le.mp fun hh => e3 (decide_eq_true hh)
              refine ⟨_, rfl, p, _, 4, _, rfl, rfl, lst_of hP2, atI4, _, rfl, st, _, rfl, rfl, _, 1, rfl, rfl, _, 48271, rfl, rfl, .inr ⟨by decide, by decide⟩, .inl ⟨_, rfl, _, 2147483629, rfl, rfl, (by show (0 : Int) < 2147483629; decide), _, rfl, p, _, 4, 4, rfl, rfl, hP2, rfl, ?_⟩⟩
              refine ⟨(j : Int) + 1, b, ((st + if ns[j] < 0 then -ns[j] else ns[j]) + 1) * 48271 % 2147483629, _, rfl, ?_, by omega, by omega, b0, Int.emod_nonneg _ (by decide), Int.emod_lt_of_pos _ (by decide)⟩
              rw [upd_upd, upd_upd]
              rfl
          · exact ⟨i, b, st, _, rfl, rfl, i0, i1, b0, s0, s1⟩
        · exact ⟨i, b, st, _, rfl, rfl, i0, i1, b0, s0, s1⟩
      · rintro σ H2 ⟨i', b', st', v, rfl, rfl, i0', i1', b0', s0', s1'⟩
        have hP : upd H p (pl sa (c' + 1) i' b' st') p = some (pl sa (c' + 1) i' b' st') := upd_same
        have fin : ∀ (b'' : Int) (r : Int), 0 ≤ b'' → 0 ≤ r → r < lim → Q (.int r) (upd H p (pl sa (c' + 1) i' b'' st')) := fun b'' r hb hr0 hr1 =>
          k _ r (gd_pool hp) ⟨sa, ns, c' + 1, i', b'', st', hsa.gd (gd_pool hp), upd_same, by omega, by omega, i0', i1', hb, s0', s1'⟩ hr0 hr1
        refine ⟨_, rfl, p, _, 3, _, rfl, rfl, lst_of hP, atI3, b', 0, rfl, rfl, _, rfl, ?_⟩
        refine ite2 (fun e1 => ?_) (fun e1 => ?_)
        · refine ⟨_, rfl, p, _, 3, _, rfl, rfl, lst_of hP, atI3, .inl ⟨_, rfl, _, rfl, b', lim, rfl, rfl, l0, ?_⟩⟩
          refine ⟨_, rfl, p, _, 3, _, rfl, rfl, lst_of hP, atI3, _, rfl, b', lim, rfl, rfl, ⟨l0, ?_⟩, _, rfl, p, _, 3, 3, rfl, rfl, hP, rfl, _, rfl, ?_⟩
          · exact (wide_div (i := 0) (b := 200) l0 (by omega) (by decide) (by decide)).2
          · have := fin (b' / lim) (b' % lim) (Int.ediv_nonneg b0' (by omega)) (Int.emod_nonneg _ (by omega)) (Int.emod_lt_of_pos _ l0)
            rw [upd_upd]
            exact this
        · refine ⟨_, rfl, p, _, 4, _, rfl, rfl, lst_of hP, atI4, _, rfl, p, _, 1, _, rfl, rfl, lst_of hP, atI1, c' + 1, 7919, rfl, rfl, .inr ⟨by decide, by decide⟩, st', _, rfl, rfl, _, 3, rfl, rfl, ⟨by decide, by decide, ?_⟩, .inl ⟨_, rfl, _, 2147483647, rfl, rfl, (by show (0 : Int) < 2147483647; decide), ?_⟩⟩
          · unfold LIM at hc
            omega
          · refine ⟨_, rfl, _, 16, rfl, rfl, ⟨by decide, by decide⟩, .inl ⟨_, rfl, _, rfl, _, lim, rfl, rfl, l0, ?_⟩⟩
            exact fin b' _ b0' (Int.emod_nonneg _ (by omega)) (Int.emod_lt_of_pos _ l0)
theorem ok_l_some (T : Txt K mg a) : FnOk P w K mg base CX0 2 a.f_l_some a.d_l_some P_l_some (spSome K) := by
  refine T.F_l_some.ok sc_l_some (fun vs H Q E h => ?_) (fun cdv A outer s H vs Q E hr h => ?_)
  · obtain ⟨p, c, m, rfl, _⟩ := h
    rfl
  · obtain ⟨p, c, m, rfl, hp, hc, m0, m1, k⟩ := h
    refine ⟨_, (pss_one (ps_ret (pe_lc (own := [("_law_k", 2)]) (g := gName 2) (tt := tYes) (te := (tCall (spDraw K) [] E0 (tCons (tVar 0) (tCons (tC (.int 48)) tNil)))) rfl sc_l_some.nd (pi_range1 (by rfl) T.z_range (pa_cons (pe_call (ok_l_draw T) (hr.mono (by decide)) (by rfl) T.g_l_draw T.k_l_draw T.b_l_draw .nil pass0 (pa_cons (pv 0) (pa_cons (pv 1) pa_nil))) pa_nil)) (blkOk_by (N := N_l_some) (sc := defScope s_l_some) (by decide +kernel)) (fun _ _ _ _ _ => pg_name (i := 2) sc_l_some.nd rfl (Or.inl rfl)) (fun _ _ _ _ _ => pts_nil) (fun _ _ _ _ _ => by exact (pe_call (ok_l_draw T) (hr.mono (by decide)) (by rfl) T.g_l_draw T.k_l_draw T.b_l_draw .nil pass0 (pa_cons (pv 0) (pa_cons pe_int pa_nil))))))), ?_⟩
    refine ⟨_, rfl, _, rfl, p, c, m, rfl, hp, by omega, m0, by omega, fun H1 r g1 p1 r0 r1 => ⟨r, rfl, by omega, by omega, fun D nD => ?_⟩⟩
    refine lc_range (lo := 0) (n := r.toNat) (fun i H2 => ∃ l, H2 D = some (.lst (l.map V.int)) ∧ l.length = i ∧ Qn l ∧ Gd H1 H2 ∧ PoolOk K p (c + 1 + i) H2) ⟨[], upd_same, rfl, fun _ h => (nomatch h), (same_upd nD).gd, p1.upd nD⟩ (fun i H2 hi h => ?_) (fun H2 h => ?_)
    · obtain ⟨l, hD, hl, hq, g2, p2⟩ := h
      refine ⟨rfl, tyes ?_⟩
      refine ⟨_, rfl, p, c + 1 + i, 48, rfl, p2, by omega, by decide, by decide, fun H3 z g3 p3 z0 z1 => ?_⟩
      have hD3 := g3.1 _ _ (np_ints l) hD
      refine ⟨_, hD3, ?_, l ++ [z], ?_, ?_, ?_, (g2.trans g3).mut nD, (p3.mut hD3 (np_ints l)).mono (by omega)⟩
      · rw [List.length_map, sizeLine_eq]; omega
      · rw [upd_same, List.map_append]; rfl
      · rw [List.length_append, hl]; rfl
      · exact qn_append hq fun y hy => by rw [List.mem_singleton.mp hy]; exact ⟨z0, z1⟩
    · obtain ⟨l, hD, hl, hq, g2, p2⟩ := h
      exact k H2 D l (fresh_gd g1 nD) (g1.trans g2) (p2.mono (by omega)) hD hq (by omega)
theorem ok_l_set (T : Txt K mg a) : FnOk P w K mg base CX0 1 a.f_l_set a.d_l_set P_l_set (spSet K) := by
  refine T.F_l_set.ok sc_l_set (fun vs H Q E h => ?_) (fun cdv A outer s H vs Q E hr h => ?_)
  · obtain ⟨q, l, rfl, _⟩ := h
    rfl
  · obtain ⟨q, l, rfl, hq, k⟩ := h
    refine ⟨_, (pss_one (ps_ret (pe_lc (own := [("_law_name", 1)]) (g := gName 1) (tt := (tTest (tOp (rIn K false) (tVar 1) (tVar 0)))) (te := (tVar 1)) rfl sc_l_set.nd (pi_range1 (by rfl) T.z_range (pa_cons pe_int pa_nil)) (blkOk_by (N := N_l_set) (sc := defScope s_l_set) (by decide +kernel)) (fun _ _ _ _ _ => pg_name (i := 1) sc_l_set.nd rfl (Or.inl rfl)) (fun _ _ _ _ _ => by exact (pts_one (pt_cmpR op_in_seq (pv 1) (pv 0) (by with_unfolding_all rfl)))) (fun _ _ _ _ _ => by exact (pv 1))))), ?_⟩
    refine ⟨48, rfl, by decide, by decide, fun D nD => lcR_filter (n := 48) (fun x => decide (x ∈ l)) nD (by decide) (fun _ => rfl) ?_ ?_ ?_⟩
    · intro z hz H' e' R r
      exact ⟨_, rfl, _, rfl, in_k (.inl (e'.seq hq)) ⟨_, rfl, r⟩⟩
    · intro z hz H' e' R r
      exact ⟨_, rfl, r⟩
    · intro H1 e1 h1
      exact k H1 D nD e1 h1
theorem ok_l_pair (T : Txt K mg a) : FnOk P w K mg base CX0 5 a.f_l_pair a.d_l_pair P_l_pair (spPair K) := by
  refine T.F_l_pair.ok sc_l_pair (fun vs H Q E h => ?_) (fun cdv A outer s H vs Q E hr h => ?_)
  · obtain ⟨o, t, l, m, rfl, _⟩ := h
    rfl
  · obtain ⟨o, t, l, m, rfl, ho, ht, hql, hqm, hl, hm, k⟩ := h
    refine ⟨_, (Evl.pss_cut (ps_set (i := 2) sc_l_pair.nd rfl (Or.inl rfl) (pe_make T.mk_Pupil (ok_Pupil_init T) (hr.mono (by decide)) (by rfl) T.g_Pupil T.b_Pupil_init .nil pass0 (pa_cons (pe_callTy call_list_of (by rfl) T.z_list (by decide +kernel) (pa_cons (pv 0) pa_nil)) pa_nil)))
  (Evl.pss_cut (ps_set (i := 3) sc_l_pair.nd rfl (Or.inl rfl) (pe_make T.mk_Pupil (ok_Pupil_init T) (hr.mono (by decide)) (by rfl) T.g_Pupil T.b_Pupil_init .nil pass0 (pa_cons (pe_callTy call_tuple_of (by rfl) T.z_tuple (by decide +kernel) (pa_cons (pv 1) pa_nil)) pa_nil)))
  (Evl.pss_cut (ps_if (pt_cmpR (op_neD hr.units) (pe_fld (pe_op (op_own (ok_Pupil_or T) (hr.mono (by decide)) T.s_Pupil_or T.i_Pupil_or T.sf_Pupil T.b_Pupil_or pass0) (pv 2) (pv 3)) (by rfl)) (pe_callTy call_tuple_of (by rfl) T.z_tuple (by decide +kernel) (pa_cons (pe_call (ok_l_set T) (hr.mono (by decide)) (by rfl) T.g_l_set T.k_l_set T.b_l_set .nil pass0 (pa_cons (pe_op op_cat (pv 0) (pv 1)) pa_nil)) pa_nil)) (nomark _))
    (pss_one (ps_ret pe_bl))
    pss_nil)
  (Evl.pss_cut (ps_if (pt_cmpR (op_neD hr.units) (pe_fld (pe_op (op_own (ok_Pupil_and T) (hr.mono (by decide)) T.s_Pupil_and T.i_Pupil_and T.sf_Pupil T.b_Pupil_and pass0) (pv 2) (pv 3)) (by rfl)) (pe_callTy call_tuple_of (by rfl) T.z_tuple (by decide +kernel) (pa_cons (pe_lc (own := [("_law_name", 5)]) (g := gName 5) (tt := (tTest (tOp (rIn K false) (tVar 5) (tVar 1)))) (te := (tVar 5)) rfl sc_l_pair.nd (pi_list (pe_call (ok_l_set T) (hr.mono (by decide)) (by rfl) T.g_l_set T.k_l_set T.b_l_set .nil pass0 (pa_cons (pv 0) pa_nil))) (blkOk_by (N := N_l_pair) (sc := defScope s_l_pair) (by decide +kernel)) (fun _ _ _ _ _ => pg_name (i := 5) sc_l_pair.nd rfl (Or.inl rfl)) (fun _ _ _ _ _ => by exact (pts_one (pt_cmpR op_in_seq (pv 5) (pv 1) (by with_unfolding_all rfl)))) (fun _ _ _ _ _ => by exact (pv 5))) pa_nil)) (nomark _))
    (pss_one (ps_ret pe_bl))
    pss_nil)
  (Evl.pss_cut (ps_if (pt_cmpR (op_neD hr.units) (pe_fld (pe_op (op_own (ok_Pupil_sub T) (hr.mono (by decide)) T.s_Pupil_sub T.i_Pupil_sub T.sf_Pupil T.b_Pupil_sub pass0) (pv 2) (pv 3)) (by rfl)) (pe_callTy call_tuple_of (by rfl) T.z_tuple (by decide +kernel) (pa_cons (pe_lc (own := [("_law_name", 5)]) (g := gName 5) (tt := (tTest (tOp (rIn K true) (tVar 5) (tVar 1)))) (te := (tVar 5)) rfl sc_l_pair.nd (pi_list (pe_call (ok_l_set T) (hr.mono (by decide)) (by rfl) T.g_l_set T.k_l_set T.b_l_set .nil pass0 (pa_cons (pv 0) pa_nil))) (blkOk_by (N := N_l_pair) (sc := defScope s_l_pair) (by decide +kernel)) (fun _ _ _ _ _ => pg_name (i := 5) sc_l_pair.nd rfl (Or.inl rfl)) (fun _ _ _ _ _ => by exact (pts_one (pt_cmpR op_notIn_seq (pv 5) (pv 1) (by with_unfolding_all rfl)))) (fun _ _ _ _ _ => by exact (pv 5))) pa_nil)) (nomark _))
    (pss_one (ps_ret pe_bl))
    pss_nil)
  (Evl.pss_cut (ps_set (i := 4) sc_l_pair.nd rfl (Or.inl rfl) (pe_cmpR (op_eqD hr.units) (pe_lc (own := [("_law_name", 5)]) (g := gName 5) (tt := (tTest (tOp (rIn K true) (tVar 5) (tVar 1)))) (te := (tVar 5)) rfl sc_l_pair.nd (pi_list (pv 0)) (blkOk_by (N := N_l_pair) (sc := defScope s_l_pair) (by decide +kernel)) (fun _ _ _ _ _ => pg_name (i := 5) sc_l_pair.nd rfl (Or.inl rfl)) (fun _ _ _ _ _ => by exact (pts_one (pt_cmpR op_notIn_seq (pv 5) (pv 1) (by with_unfolding_all rfl)))) (fun _ _ _ _ _ => by exact (pv 5))) (pe_lst pa_nil) (nomark _)))
  (Evl.pss_cut (ps_if (PW.pt (pw_or (pt_not (pt_val (pe_callB call_isi (by rfl) T.z_isinstance (by decide +kernel) (pa_cons (pe_cmpR (cmp_own (ok_Pupil_le T) (hr.mono (by decide)) T.s_Pupil_le T.i_Pupil_le T.b_Pupil_le pass0) (pv 2) (pv 3) (nomark _)) (pa_cons (pe_bltn (v := .ty "bool") (by rfl) T.z_bool (by decide +kernel) rfl) pa_nil))))) (pw_or (pt_cmpR op_ne (pe_cmpR (cmp_own (ok_Pupil_le T) (hr.mono (by decide)) T.s_Pupil_le T.i_Pupil_le T.b_Pupil_le pass0) (pv 2) (pv 3) (nomark _)) (pv 4) (nomark _)) (pw_or (pt_cmpR op_ne (pe_cmpR (cmp_own (ok_Pupil_eq T) (hr.mono (by decide)) T.s_Pupil_eq T.i_Pupil_eq T.b_Pupil_eq pass0) (pe_op (op_own (ok_Pupil_or T) (hr.mono (by decide)) T.s_Pupil_or T.i_Pupil_or T.sf_Pupil T.b_Pupil_or pass0) (pv 2) (pv 3)) (pv 3) (nomark _)) (pv 4) (nomark _)) (pw_or1 (pt_cmpR op_ne (pe_cmpR (cmp_own (ok_Pupil_eq T) (hr.mono (by decide)) T.s_Pupil_eq T.i_Pupil_eq T.b_Pupil_eq pass0) (pe_op (op_own (ok_Pupil_and T) (hr.mono (by decide)) T.s_Pupil_and T.i_Pupil_and T.sf_Pupil T.b_Pupil_and pass0) (pv 2) (pv 3)) (pv 2) (nomark _)) (pv 4) (nomark _)))))))
    (pss_one (ps_ret pe_bl))
    pss_nil)
  (Evl.pss_cut (ps_if (PW.pt (pw_or (pt_cmpR op_notBl (pe_cmpR (cmp_own (ok_Pupil_le T) (hr.mono (by decide)) T.s_Pupil_le T.i_Pupil_le T.b_Pupil_le pass0) (pv 2) (pe_op (op_own (ok_Pupil_or T) (hr.mono (by decide)) T.s_Pupil_or T.i_Pupil_or T.sf_Pupil T.b_Pupil_or pass0) (pv 2) (pv 3)) (nomark _)) pe_bl (nomark _)) (pw_or (pt_cmpR op_notBl (pe_cmpR (cmp_own (ok_Pupil_le T) (hr.mono (by decide)) T.s_Pupil_le T.i_Pupil_le T.b_Pupil_le pass0) (pe_op (op_own (ok_Pupil_and T) (hr.mono (by decide)) T.s_Pupil_and T.i_Pupil_and T.sf_Pupil T.b_Pupil_and pass0) (pv 2) (pv 3)) (pv 3) (nomark _)) pe_bl (nomark _)) (pw_or1 (pt_cmpR (op_neD hr.units) (pe_fld (pe_op (op_own (ok_Pupil_and T) (hr.mono (by decide)) T.s_Pupil_and T.i_Pupil_and T.sf_Pupil T.b_Pupil_and pass0) (pe_op (op_own (ok_Pupil_sub T) (hr.mono (by decide)) T.s_Pupil_sub T.i_Pupil_sub T.sf_Pupil T.b_Pupil_sub pass0) (pv 2) (pv 3)) (pv 3)) (by rfl)) (pe_tup pa_nil) (nomark _))))))
    (pss_one (ps_ret pe_bl))
    pss_nil)
  (Evl.pss_cut (ps_if (pt_not (pt_cmpR (cmp_own (ok_Pupil_eq T) (hr.mono (by decide)) T.s_Pupil_eq T.i_Pupil_eq T.b_Pupil_eq pass0) (pe_op (op_own (ok_Pupil_or T) (hr.mono (by decide)) T.s_Pupil_or T.i_Pupil_or T.sf_Pupil T.b_Pupil_or pass0) (pe_op (op_own (ok_Pupil_sub T) (hr.mono (by decide)) T.s_Pupil_sub T.i_Pupil_sub T.sf_Pupil T.b_Pupil_sub pass0) (pv 2) (pv 3)) (pe_op (op_own (ok_Pupil_and T) (hr.mono (by decide)) T.s_Pupil_and T.i_Pupil_and T.sf_Pupil T.b_Pupil_and pass0) (pv 2) (pv 3))) (pv 2) (nomark _)))
    (pss_one (ps_ret pe_bl))
    pss_nil)
  (pss_one (ps_ret (pe_and (pe_cmpR (op_eqD hr.units) (pe_fld (pv 2) (by rfl)) (pe_callTy call_tuple_of (by rfl) T.z_tuple (by decide +kernel) (pa_cons (pe_call (ok_l_set T) (hr.mono (by decide)) (by rfl) T.g_l_set T.k_l_set T.b_l_set .nil pass0 (pa_cons (pv 0) pa_nil)) pa_nil)) (nomark _)) (pe_one (pe_cmpR (op_eqD hr.units) (pe_fld (pv 3) (by rfl)) (pe_callTy call_tuple_of (by rfl) T.z_tuple (by decide +kernel) (pa_cons (pe_call (ok_l_set T) (hr.mono (by decide)) (by rfl) T.g_l_set T.k_l_set T.b_l_set .nil pass0 (pa_cons (pv 1) pa_nil)) pa_nil)) (nomark _))))))))))))))), ?_⟩
    -- _law_a
    refine ⟨fun σ H1 => ∃ A, σ = [some (.ref o), some (.ref t), some (.ref A), none, none, none] ∧ Same H H1 ∧ PupAt a.c_Pupil H1 A l, ?_, ?_⟩
    · refine ⟨_, rfl, o, _, rfl, .inl (lst_of ho), fun D nD => ?_⟩
      refine pup_make (.inl (lst_of upd_same)) (by omega) hql ?_
      intro x H' nx e px
      exact ⟨x, rfl, (same_upd nD).trans e, px⟩
    rintro σ H1 ⟨A, rfl, e1, pA⟩
    -- _law_b
    refine ⟨fun σ H1 => ∃ B, σ = [some (.ref o), some (.ref t), some (.ref A), some (.ref B), none, none] ∧ Same H H1 ∧ PupAt a.c_Pupil H1 A l ∧ PupAt a.c_Pupil H1 B m, ?_, ?_⟩
    · refine ⟨_, rfl, t, m.map V.int, rfl, .inl ⟨lst_of (e1 _ _ ht), fun D nD => ?_⟩⟩
      refine pup_make (.inr (tup_of upd_same)) (by omega) hqm ?_
      intro x H' nx e px
      exact ⟨x, rfl, e1.trans ((same_upd nD).trans e), pA.same ((same_upd nD).trans e), px⟩
    rintro σ H2 ⟨B, rfl, e2, pA, pB⟩
    have ho2 := e2 _ _ ho
    have ht2 := e2 _ _ ht
    have hlen : l.length + m.length ≤ sizeLine := by rw [sizeLine_eq]; omega
    -- |
    refine ⟨fun σ H3 => σ = [some (.ref o), some (.ref t), some (.ref A), some (.ref B), none, none] ∧ Same H2 H3, ?_, ?_⟩
    · refine ⟨_, rfl, _, rfl, own_bin pA pB ?_⟩
      intro z H3 nz e3 pz
      obtain ⟨dd_z, u, hh_z, hu⟩ := id pz
      refine ⟨z, _, dd_z, _, _, rfl, hh_z, T.cl_Pupil, T.nA_Pupil_rights, rfl, ?_⟩
      refine ⟨_, rfl, _, rfl, o, t, _, _, rfl, rfl, e3 _ _ ho2, e3 _ _ ht2, by rw [List.length_map, List.length_map]; exact hlen, fun p np => ?_⟩
      refine ⟨p, l ++ m, rfl, lst_of (by rw [upd_same, List.map_append]), fun H4 D nD e4 hD => ⟨D, _, rfl, .inl ⟨lst_of hD, fun q nq => ?_⟩⟩⟩
      have e5 := ((same_upd np).trans e4).trans (same_upd nq (o := .tup ((norm (l ++ m)).map V.int)))
      refine neD_tup (tup_of (e5 _ _ hu)) (tup_of upd_same) ⟨_, rfl, ?_⟩
      rw [ne_false (show norm (fOr l m) = norm (l ++ m) from rfl)]
      exact iteF ⟨rfl, e3.trans e5⟩
    rintro σ H3 ⟨rfl, e3⟩
    -- &
    refine ⟨fun σ H3 => σ = [some (.ref o), some (.ref t), some (.ref A), some (.ref B), none, none] ∧ Same H2 H3, ?_, ?_⟩
    · refine ⟨_, rfl, _, rfl, own_bin (pA.same e3) (pB.same e3) ?_⟩
      intro z H4 nz e4 pz
      obtain ⟨dd_z, u, hh_z, hu⟩ := id pz
      refine ⟨z, _, dd_z, _, _, rfl, hh_z, T.cl_Pupil, T.nA_Pupil_rights, rfl, ?_⟩
      have e34 := e3.trans e4
      refine ⟨_, rfl, o, l, rfl, lst_of (e34 _ _ ho2), fun H5 D nD e5 hD => ⟨D, rfl, ⟨_, lst_of hD⟩, fun D2 nD2 => lcL_filter (K := K) (ns := norm l) (fun x => decide (x ∈ m)) (lst_of hD) nD2 (by have := norm_len l; omega) (fun _ => rfl) ?_ ?_ ?_⟩⟩
      · intro z hz H' e' R r
        exact ⟨_, rfl, _, rfl, in_k (.inl (lst_of (e' _ _ (e5 _ _ (e34 _ _ ht2))))) ⟨_, rfl, r⟩⟩
      · intro z hz H' e' R r
        exact ⟨_, rfl, r⟩
      · intro H6 e6 h6
        refine ⟨D2, _, rfl, .inl ⟨lst_of h6, fun q nq => ?_⟩⟩
        have e7 := (e5.trans e6).trans (same_upd nq (o := .tup (((norm l).filter fun x => decide (x ∈ m)).map V.int)))
        refine neD_tup (tup_of (e7 _ _ hu)) (tup_of upd_same) ⟨_, rfl, ?_⟩
        rw [ne_false (and_set l m)]
        exact iteF ⟨rfl, e34.trans e7⟩
    rintro σ H4 ⟨rfl, e4⟩
    -- -
    refine ⟨fun σ H3 => σ = [some (.ref o), some (.ref t), some (.ref A), some (.ref B), none, none] ∧ Same H2 H3, ?_, ?_⟩
    · refine ⟨_, rfl, _, rfl, own_bin (pA.same e4) (pB.same e4) ?_⟩
      intro z H5 nz e5 pz
      obtain ⟨dd_z, u, hh_z, hu⟩ := id pz
      refine ⟨z, _, dd_z, _, _, rfl, hh_z, T.cl_Pupil, T.nA_Pupil_rights, rfl, ?_⟩
      have e34 := e4.trans e5
      refine ⟨_, rfl, o, l, rfl, lst_of (e34 _ _ ho2), fun H5 D nD e5 hD => ⟨D, rfl, ⟨_, lst_of hD⟩, fun D2 nD2 => lcL_filter (K := K) (ns := norm l) (fun x => !decide (x ∈ m)) (lst_of hD) nD2 (by have := norm_len l; omega) (fun _ => rfl) ?_ ?_ ?_⟩⟩
      · intro z hz H' e' R r
        exact ⟨_, rfl, _, rfl, in_k (.inl (lst_of (e' _ _ (e5 _ _ (e34 _ _ ht2))))) ⟨_, rfl, r⟩⟩
      · intro z hz H' e' R r
        exact ⟨_, rfl, r⟩
      · intro H6 e6 h6
        refine ⟨D2, _, rfl, .inl ⟨lst_of h6, fun q nq => ?_⟩⟩
        have e7 := (e5.trans e6).trans (same_upd nq (o := .tup (((norm l).filter fun x => !decide (x ∈ m)).map V.int)))
        refine neD_tup (tup_of (e7 _ _ hu)) (tup_of upd_same) ⟨_, rfl, ?_⟩
        rw [ne_false (sub_set l m)]
        exact iteF ⟨rfl, e34.trans e7⟩
    rintro σ H5 ⟨rfl, e5⟩
    -- within
    refine ⟨fun σ H3 => σ = [some (.ref o), some (.ref t), some (.ref A), some (.ref B), some (.bl (decide (l.filter (fun x => !decide (x ∈ m)) = []))), none] ∧ Same H2 H3, ?_, ?_⟩
    · refine ⟨_, rfl, o, rfl, ⟨_, lst_of (e5 _ _ ho2)⟩, fun D2 nD2 => lcL_filter (K := K) (ns := l) (fun x => !decide (x ∈ m)) (lst_of (e5 _ _ ho2)) nD2 (by omega) (fun _ => rfl) ?_ ?_ ?_⟩
      · intro z hz H' e' R r
        exact ⟨_, rfl, _, rfl, in_k (.inl (lst_of (e' _ _ (e5 _ _ ht2)))) ⟨_, rfl, r⟩⟩
      · intro z hz H' e' R r
        exact ⟨_, rfl, r⟩
      · intro H6 e6 h6
        refine ⟨Nat.zero_le _, fun q nq => ?_⟩
        refine eqD_lst (ns := l.filter fun x => !decide (x ∈ m)) (ms := []) (lst_of ((same_upd nq) _ _ h6)) (lst_of upd_same) ?_
        exact ⟨rfl, e5.trans (e6.trans (same_upd nq))⟩
    rintro σ H6 ⟨rfl, e6⟩
    generalize hW : decide (l.filter (fun x => !decide (x ∈ m)) = []) = W
    have w1 : fLe (norm l) (norm m) = W := by rw [← hW]; exact le_within hql
    have w2 : fEq (norm (fOr l m)) (norm m) = W := by rw [← hW]; exact or_within hql
    have w3 : fEq (norm (fAnd l m)) (norm l) = W := by rw [← hW]; exact and_within hql
    -- <=, |, & against within
    refine ⟨fun σ H3 => σ = [some (.ref o), some (.ref t), some (.ref A), some (.ref B), some (.bl W), none] ∧ Same H2 H3, ?_, ?_⟩
    · refine ⟨_, rfl, _, rfl, own_rel (pA.same e6) (pB.same e6) ?_⟩
      intro H7 e7
      refine ⟨_, .ty "bool", _, _, true, rfl, .ty _, .base (.bl _), kit_bool, _, rfl, iteF ?_⟩
      have p67 := e6.trans e7
      refine ⟨_, rfl, _, rfl, own_rel (pA.same p67) (pB.same p67) ?_⟩
      intro H8 e8
      refine ⟨_, rfl, rfl, _, rfl, ?_⟩
      rw [w1, dec_self]
      refine iteF ?_
      have p68 := p67.trans e8
      refine ⟨_, rfl, _, rfl, own_bin (pA.same p68) (pB.same p68) ?_⟩
      intro z H9 nz e9 pz
      have p69 := p68.trans e9
      refine ⟨_, rfl, own_rel pz (pB.same p69) ?_⟩
      intro H10 e10
      refine ⟨_, rfl, rfl, _, rfl, ?_⟩
      rw [w2, dec_self]
      refine iteF ?_
      have p610 := p69.trans e10
      refine ⟨_, rfl, _, rfl, own_bin (pA.same p610) (pB.same p610) ?_⟩
      intro y H11 ny e11 py
      have p611 := p610.trans e11
      refine ⟨_, rfl, own_rel py (pA.same p611) ?_⟩
      intro H12 e12
      refine ⟨_, rfl, rfl, _, rfl, ?_⟩
      rw [w3, dec_self]
      exact iteF ⟨rfl, p611.trans e12⟩
    rintro σ H7 ⟨rfl, e7⟩
    refine ⟨fun σ H3 => σ = [some (.ref o), some (.ref t), some (.ref A), some (.ref B), some (.bl W), none] ∧ Same H2 H3, ?_, ?_⟩
    · refine ⟨_, rfl, _, rfl, _, rfl, own_bin (pA.same e7) (pB.same e7) ?_⟩
      intro z H8 nz e8 pz
      have p1 := e7.trans e8
      refine own_rel (pA.same p1) pz ?_
      intro H9 e9
      refine ⟨_, true, rfl, rfl, _, rfl, ?_⟩
      rw [le_or]
      refine iteF ?_
      have p2 := p1.trans e9
      refine ⟨_, rfl, _, rfl, own_bin (pA.same p2) (pB.same p2) ?_⟩
      intro y H10 ny e10 py
      have p3 := p2.trans e10
      refine ⟨_, rfl, own_rel py (pB.same p3) ?_⟩
      intro H11 e11
      refine ⟨_, true, rfl, rfl, _, rfl, ?_⟩
      rw [le_and]
      refine iteF ?_
      have p4 := p3.trans e11
      refine ⟨_, rfl, _, rfl, own_bin (pA.same p4) (pB.same p4) ?_⟩
      intro x H12 nx e12 px
      have p5 := p4.trans e12
      refine ⟨_, rfl, own_bin px (pB.same p5) ?_⟩
      intro v H13 nv e13 pv
      obtain ⟨dd_v, u, hh_v, hu⟩ := id pv
      refine ⟨v, _, dd_v, _, _, rfl, hh_v, T.cl_Pupil, T.nA_Pupil_rights, rfl, ?_⟩
      refine ⟨Nat.zero_le _, fun q nq => ?_⟩
      refine neD_tup (ms := []) (tup_of ((same_upd nq) _ _ hu)) (tup_of upd_same) ⟨_, rfl, ?_⟩
      rw [ne_false (sub_and l m)]
      exact iteF ⟨rfl, p5.trans (e13.trans (same_upd nq))⟩
    rintro σ H8 ⟨rfl, e8⟩
    refine ⟨fun σ H3 => σ = [some (.ref o), some (.ref t), some (.ref A), some (.ref B), some (.bl W), none] ∧ Same H2 H3, ?_, ?_⟩
    · refine ⟨_, rfl, _, rfl, own_bin (pA.same e8) (pB.same e8) ?_⟩
      intro z H9 nz e9 pz
      have p1 := e8.trans e9
      refine ⟨_, rfl, _, rfl, own_bin (pA.same p1) (pB.same p1) ?_⟩
      intro y H10 ny e10 py
      have p2 := p1.trans e10
      refine own_bin (pz.same e10) py ?_
      intro x H11 nx e11 px
      have p3 := p2.trans e11
      refine ⟨_, rfl, own_rel px (pA.same p3) ?_⟩
      intro H12 e12
      refine ⟨_, rfl, ?_⟩
      rw [show fEq (norm (fOr (fSub l m) (fAnd l m))) (norm l) = true from decide_eq_true (sub_or_and l m)]
      exact iteF ⟨rfl, p3.trans e12⟩
    rintro σ H9 ⟨rfl, e9⟩
    -- the answer
    obtain ⟨dd_A, u, hh_A, hu⟩ := id (pA.same e9)
    refine ⟨_, rfl, A, _, dd_A, _, _, rfl, hh_A, T.cl_Pupil, T.nA_Pupil_rights, rfl, ?_⟩
    refine ⟨_, rfl, o, l, rfl, lst_of (e9 _ _ ho2), fun H10 D nD e10 hD => ⟨D, _, rfl, .inl ⟨lst_of hD, fun q nq => ?_⟩⟩⟩
    have p1 := e10.trans (same_upd nq (o := .tup ((norm l).map V.int)))
    refine eqD_tup (tup_of (p1 _ _ hu)) (tup_of upd_same) ⟨_, rfl, ?_⟩
    rw [decide_eq_true (rfl : norm l = norm l)]
    refine iteT ?_
    obtain ⟨dd_B, v, hh_B, hv⟩ := id (pB.same (e9.trans p1))
    refine ⟨_, rfl, B, _, dd_B, _, _, rfl, hh_B, T.cl_Pupil, T.nA_Pupil_rights, rfl, ?_⟩
    refine ⟨_, rfl, t, m, rfl, lst_of (p1 _ _ (e9 _ _ ht2)), fun H11 D2 nD2 e11 hD2 => ⟨D2, _, rfl, .inl ⟨lst_of hD2, fun q2 nq2 => ?_⟩⟩⟩
    have p2 := e11.trans (same_upd nq2 (o := .tup ((norm m).map V.int)))
    refine eqD_tup (tup_of (p2 _ _ hv)) (tup_of upd_same) ?_
    rw [decide_eq_true (rfl : norm m = norm m)]
    exact k _ (e2.trans (e9.trans (p1.trans p2)))
def sp_law (K : PySem.W.Frag) : Sp := fun vs H Q _ => ∃ (x : Addr) (ns : List Int), vs = [.ref x] ∧ ScrAt K H x (ns.map V.int) ∧ ns.length ≤ 63 ∧ ∀ H', Q (.bl true) H'
theorem ok_law (T : Txt K mg a) : FnOk P w K mg base CX0 6 a.f_law a.d_law P_law (sp_law K) := by
  refine T.F_law.ok sc_law (fun vs H Q E h => ?_) (fun cdv A outer s H vs Q E hr h => ?_)
  · obtain ⟨x, ns, rfl, _⟩ := h
    rfl
  · obtain ⟨x, ns, rfl, hx, hl, k⟩ := h
    refine ⟨_, (Evl.pss_cut (ps_set (i := 1) sc_law.nd rfl (Or.inr rfl) (pe_call (ok_l_pool T) (hr.mono (by decide)) (by rfl) T.g_l_pool T.k_l_pool T.b_l_pool .nil pass0 (pa_cons (pv 0) pa_nil)))
  (Evl.pss_cut (ps_set (i := 2) sc_law.nd rfl (Or.inl rfl) (pe_call (ok_l_some T) (hr.mono (by decide)) (by rfl) T.g_l_some T.k_l_some T.b_l_some .nil pass0 (pa_cons (pv 1) (pa_cons (pe_ix ix_list (pe_lst (pa_cons pe_int (pa_cons pe_int pa_nil))) (pe_call (ok_l_draw T) (hr.mono (by decide)) (by rfl) T.g_l_draw T.k_l_draw T.b_l_draw .nil pass0 (pa_cons (pv 1) (pa_cons pe_int pa_nil))) (by intro _ _; rfl)) pa_nil))))
  (Evl.pss_cut (ps_set (i := 3) sc_law.nd rfl (Or.inl rfl) (pe_call (ok_l_some T) (hr.mono (by decide)) (by rfl) T.g_l_some T.k_l_some T.b_l_some .nil pass0 (pa_cons (pv 1) (pa_cons (pe_ix ix_list (pe_lst (pa_cons pe_int (pa_cons pe_int pa_nil))) (pe_call (ok_l_draw T) (hr.mono (by decide)) (by rfl) T.g_l_draw T.k_l_draw T.b_l_draw .nil pass0 (pa_cons (pv 1) (pa_cons pe_int pa_nil))) (by intro _ _; rfl)) pa_nil))))
  (Evl.pss_cut (ps_set (i := 4) sc_law.nd rfl (Or.inl rfl) (pe_call (ok_l_draw T) (hr.mono (by decide)) (by rfl) T.g_l_draw T.k_l_draw T.b_l_draw .nil pass0 (pa_cons (pv 1) (pa_cons pe_int pa_nil))))
  (Evl.pss_cut (ps_if (pt_cmpR op_eq (pv 4) pe_int (nomark _))
    (pss_one (ps_setLc (i := 3) (own := [("_law_name", 6)]) (g := gName 6) (tt := (tTest (tOp (rI0 fun i j => .bl (decide (j < i))) (tCall (spDraw K) [] E0 (tCons (tVar 1) (tCons (tC (.int 3)) tNil))) (tC (.int 0))))) (te := (tVar 6)) rfl sc_law.nd rfl rfl (sw_true rfl rfl rfl (by decide +kernel)) (pi_list (pv 2)) (blkOk_by (N := N_law) (sc := defScope s_law) (by decide +kernel)) (fun _ _ _ _ _ => pg_name (i := 6) sc_law.nd rfl (Or.inl rfl)) (fun _ _ _ _ _ => by exact (pts_one (pt_cmpR op_gt (pe_call (ok_l_draw T) (hr.mono (by decide)) (by rfl) T.g_l_draw T.k_l_draw T.b_l_draw .nil pass0 (pa_cons (pv 1) (pa_cons pe_int pa_nil))) pe_int (nomark _)))) (fun _ _ _ _ _ => by exact (pv 6))))
    pss_nil)
  (Evl.pss_cut (ps_if (pt_cmpR op_eq (pv 4) pe_int (nomark _))
    (pss_one (ps_set (i := 3) sc_law.nd rfl (Or.inl rfl) (pe_op op_cat (pv 2) (pe_call (ok_l_some T) (hr.mono (by decide)) (by rfl) T.g_l_some T.k_l_some T.b_l_some .nil pass0 (pa_cons (pv 1) (pa_cons pe_int pa_nil))))))
    pss_nil)
  (Evl.pss_cut (ps_for PassesOwn.never rfl (pi_list (pe_lst (pa_cons (pv 3) (pa_cons (pv 2) (pa_cons (pe_lst pa_nil) (pa_cons (pe_listRg rfl (by rfl) T.z_list (prg_1 (by rfl) T.z_range pe_int)) pa_nil)))))) (pg_name (i := 5) sc_law.nd rfl (Or.inl rfl))
    (pss_one (ps_if (PW.pt (pw_or (pt_not (pt_val (pe_call (ok_l_pair T) (hr.mono (by decide)) (by rfl) T.g_l_pair T.k_l_pair T.b_l_pair .nil pass0 (pa_cons (pv 2) (pa_cons (pv 5) pa_nil))))) (pw_or1 (pt_not (pt_val (pe_call (ok_l_pair T) (hr.mono (by decide)) (by rfl) T.g_l_pair T.k_l_pair T.b_l_pair .nil pass0 (pa_cons (pv 5) (pa_cons (pv 2) pa_nil))))))))
    (pss_one (ps_ret pe_bl))
    pss_nil)))
  (pss_one (ps_ret pe_bl))))))))), ?_⟩
    -- the pool
    refine ⟨fun σ H1 => ∃ p, σ = [some (.ref x), some (.ref p), none, none, none, none, none] ∧ PoolOk K p 0 H1, ?_, ?_⟩
    · exact ⟨_, rfl, x, ns, rfl, hx, fun p H1 np e1 hp => ⟨p, rfl, hp⟩⟩
    rintro σ H1 ⟨p, rfl, hp⟩
    -- one
    refine ⟨fun σ H1 => ∃ O l, σ = [some (.ref x), some (.ref p), some (.ref O), none, none, none, none] ∧ PoolOk K p 201 H1 ∧ QsAt H1 O l ∧ l.length ≤ 100, ?_, ?_⟩
    · refine ⟨_, rfl, by show 2 ≤ sizeLine; decide, fun D nD => ⟨_, rfl, p, 0, 2, rfl, hp.upd nD, by decide, by decide, by decide, fun H2 r g2 p2 r0 r1 => ?_⟩⟩
      refine ⟨D, _, r, .int (if r = 0 then 11 else 41), rfl, rfl, lst_of (g2.1 _ _ (np_ints [11, 41]) upd_same), ?_, ?_⟩
      · show atI [V.int 11, V.int 41] r = _
        rw [two_at r0 r1]; split <;> rfl
      · exact ⟨p, 1, _, rfl, p2, by decide, by split <;> decide, by split <;> decide, fun H3 D3 l n3 g3 p3 h3 q3 l3 => ⟨D3, l, rfl, p3, ⟨h3, q3, by split at l3 <;> omega⟩, by split at l3 <;> omega⟩⟩
    rintro σ H2 ⟨O, l, rfl, hp2, hO, hl100⟩
    -- two
    refine ⟨fun σ H1 => ∃ T m, σ = [some (.ref x), some (.ref p), some (.ref O), some (.ref T), none, none, none] ∧ PoolOk K p 402 H1 ∧ QsAt H1 O l ∧ QsAt H1 T m, ?_, ?_⟩
    · refine ⟨_, rfl, by show 2 ≤ sizeLine; decide, fun D nD => ⟨_, rfl, p, 201, 2, rfl, hp2.upd nD, by decide, by decide, by decide, fun H3 r g3 p3 r0 r1 => ?_⟩⟩
      refine ⟨D, _, r, .int (if r = 0 then 11 else 41), rfl, rfl, lst_of (g3.1 _ _ (np_ints [11, 41]) upd_same), ?_, ?_⟩
      · show atI [V.int 11, V.int 41] r = _
        rw [two_at r0 r1]; split <;> rfl
      · exact ⟨p, 202, _, rfl, p3, by decide, by split <;> decide, by split <;> decide, fun H4 D4 m n4 g4 p4 h4 q4 l4 => ⟨D4, m, rfl, p4, ((hO.same (same_upd nD)).gd g3).gd g4, h4, q4, by split at l4 <;> omega⟩⟩
    rintro σ H3 ⟨T, m, rfl, hp3, hO, hT⟩
    -- way
    refine ⟨fun σ H1 => ∃ y : Int, σ = [some (.ref x), some (.ref p), some (.ref O), some (.ref T), some (.int y), none, none] ∧ PoolOk K p 403 H1 ∧ QsAt H1 O l ∧ QsAt H1 T m, ?_, ?_⟩
    · exact ⟨_, rfl, p, 402, 3, rfl, hp3, by decide, by decide, by decide, fun H4 r g4 p4 r0 r1 => ⟨r, rfl, p4, hO.gd g4, hT.gd g4⟩⟩
    rintro σ H4 ⟨y, rfl, hp4, hO, hT⟩
    -- way 1
    refine ⟨fun σ H1 => ∃ T m, σ = [some (.ref x), some (.ref p), some (.ref O), some (.ref T), some (.int y), none, none] ∧ PoolOk K p 700 H1 ∧ QsAt H1 O l ∧ QsAt H1 T m, ?_, ?_⟩
    · refine ⟨_, rfl, rfl, _, rfl, ite2 (fun e => ?_) (fun e => ⟨T, m, rfl, hp4.mono (by omega), hO, hT⟩)⟩
      refine ⟨_, rfl, O, rfl, ⟨_, lst_of hO.1⟩, fun D nD => ?_⟩
      refine lc_list (K := K) (a := O) (xs := l.map V.int) (fun i H5 => ∃ m, H5 D = some (.lst (m.map V.int)) ∧ m.length ≤ i ∧ Qn m ∧ Gd H4 H5 ∧ PoolOk K p (403 + i) H5) ⟨[], upd_same, Nat.le_refl _, fun _ h => (nomatch h), (same_upd nD).gd, hp4.upd nD⟩ (fun i H5 _ ⟨_, _, _, _, g5, _⟩ => lst_of (g5.1 _ _ (np_ints l) hO.1)) (fun i v H5 hi h => ?_) (fun H5 h => ?_)
      · obtain ⟨z, hz, rfl⟩ := get_map_int hi
        obtain ⟨m, hD, hm, hq, g5, p5⟩ := h
        have hil : i < l.length := (List.getElem?_eq_some_iff.mp hz).1
        have hl2 := hO.2.2
        refine ⟨rfl, ?_⟩
        refine ⟨_, rfl, p, 403 + i, 3, rfl, p5, by unfold LIM; omega, by decide, by decide, fun H6 r g6 p6 r0 r1 => ?_⟩
        have hD6 := g6.1 _ _ (np_ints m) hD
        refine ⟨_, _, rfl, rfl, _, rfl, ite2 (fun e => ?_) (fun e => ?_)⟩
        · refine ⟨_, rfl, _, hD6, by rw [List.length_map, sizeLine_eq]; omega, m ++ [z], ?_, ?_, ?_, (g5.trans g6).mut nD, (p6.mut hD6 (np_ints m)).mono (by omega)⟩
          · rw [upd_same, List.map_append]; rfl
          · rw [List.length_append, List.length_singleton]; omega
          · exact qn_append hq fun w hw => by rw [List.mem_singleton.mp hw]; exact hO.2.1 _ (List.mem_of_getElem? hz)
        · exact ⟨m, hD6, by omega, hq, g5.trans g6, p6.mono (by omega)⟩
      · obtain ⟨m, hD, hm, hq, g5, p5⟩ := h
        rw [List.length_map] at hm p5
        have hl2 := hO.2.2
        exact ⟨D, m, rfl, p5.mono (by omega), hO.gd g5, hD, hq, by omega⟩
    rintro σ H5 ⟨T, m, rfl, hp5, hO, hT⟩
    -- way 2
    refine ⟨fun σ H1 => ∃ T m, σ = [some (.ref x), some (.ref p), some (.ref O), some (.ref T), some (.int y), none, none] ∧ QsAt H1 O l ∧ QsAt H1 T m, ?_, ?_⟩
    · refine ⟨_, rfl, rfl, _, rfl, ite2 (fun e => ?_) (fun e => ⟨T, m, rfl, hO, hT⟩)⟩
      refine ⟨_, rfl, _, rfl, p, 700, 4, rfl, hp5, by decide, by decide, by decide, fun H6 D r n6 g6 p6 h6 q6 l6 => ?_⟩
      have hO6 := hO.gd g6
      have hl2 := hO.2.2
      refine ⟨O, D, _, _, rfl, rfl, hO6.1, h6, by rw [List.length_map, List.length_map, sizeLine_eq]; omega, fun W nW => ?_⟩
      refine ⟨W, l ++ r, rfl, hO6.same (same_upd nW), by rw [upd_same, List.map_append], qn_append hO.2.1 q6, by rw [List.length_append]; omega⟩
    rintro σ H6 ⟨T, m, rfl, hO, hT⟩
    -- the four lists
    refine ⟨fun σ H1 => True, ?_, fun σ H1 _ => k H1⟩
    refine ⟨_, rfl, _, rfl, Nat.zero_le _, fun e ne => ⟨48, rfl, RgOk.of_le (by decide) (by decide) (by decide) (by decide), fun q nq => ⟨by show 4 ≤ sizeLine; decide, fun W nW => ?_⟩⟩⟩
    have s0 : Same H6 (upd (upd (upd H6 e (.lst [])) q (.lst (rgV 0 48))) W (.lst [.ref T, .ref O, .ref e, .ref q])) := ((same_upd ne).trans (same_upd nq)).trans (same_upd nW)
    have he : QsAt (upd (upd (upd H6 e (.lst [])) q (.lst (rgV 0 48))) W (.lst [.ref T, .ref O, .ref e, .ref q])) e [] := ⟨(same_upd nW) _ _ ((same_upd nq) _ _ upd_same), fun _ h => (nomatch h), by decide⟩
    have hq48 : QsAt (upd (upd (upd H6 e (.lst [])) q (.lst (rgV 0 48))) W (.lst [.ref T, .ref O, .ref e, .ref q])) q (rgI 48) := ⟨(same_upd nW) _ _ (by rw [upd_same, show rgV 0 48 = (rgI 48).map V.int from rg_ints 48]), fun x hx => by have := mem_rgI.mp hx; omega, by rw [rgI_length]; decide⟩
    have hW : (upd (upd (upd H6 e (.lst [])) q (.lst (rgV 0 48))) W (.lst [.ref T, .ref O, .ref e, .ref q])) W = some (.lst [.ref T, .ref O, .ref e, .ref q]) := upd_same
    have hO2 := hO.same s0
    have hT2 := hT.same s0
    generalize hH : upd (upd (upd H6 e (.lst [])) q (.lst (rgV 0 48))) W (.lst [.ref T, .ref O, .ref e, .ref q]) = H7 at he hq48 hW hO2 hT2 ⊢
    refine ⟨W, rfl, ⟨_, lst_of hW⟩, for_list (K := K) (a := W) (xs := [.ref T, .ref O, .ref e, .ref q]) (fun i σ H8 => ∃ v, σ = [some (.ref x), some (.ref p), some (.ref O), some (.ref T), some (.int y), v, none] ∧ Same H7 H8) ⟨none, rfl, Same.refl _⟩ (fun i σ H8 _ ⟨_, _, e8⟩ => lst_of (e8 _ _ hW)) ?_ (fun _ _ _ => trivial)⟩
    rintro i v σ H8 hi ⟨u, rfl, e8⟩
    obtain ⟨r, l2, rfl, hr2⟩ : ∃ r l2, v = .ref r ∧ QsAt H7 r l2 := by
      rcases List.mem_of_getElem? hi with _ | ⟨_, h⟩
      · exact ⟨T, m, rfl, hT2⟩
      rcases h with _ | ⟨_, h⟩
      · exact ⟨O, l, rfl, hO2⟩
      rcases h with _ | ⟨_, h⟩
      · exact ⟨e, [], rfl, he⟩
      rcases h with _ | ⟨_, h⟩
      · exact ⟨q, rgI 48, rfl, hq48⟩
      cases h
    have hr8 := hr2.same e8
    have hO8 := hO2.same e8
    refine ⟨_, rfl, _, rfl, O, r, l, l2, rfl, hO8.1, hr8.1, hO8.2.1, hr8.2.1, hO8.2.2, hr8.2.2, fun H9 e9 => ⟨_, rfl, iteF ?_⟩⟩
    have hr9 := hr8.same e9
    have hO9 := hO8.same e9
    refine ⟨_, rfl, _, rfl, r, O, l2, l, rfl, hr9.1, hO9.1, hr9.2.1, hO9.2.1, hr9.2.2, hO9.2.2, fun H10 e10 => ⟨_, rfl, iteF ?_⟩⟩
    exact ⟨_, rfl, (e8.trans e9).trans e10⟩
end
theorem all_mk {l : PySem.W.OpenLaw} {w : World} {K : PySem.W.Frag} {h : Heap} {mg : Str → Option Value} {fa c_Pupil f_is_question f_Pupil_init f_Pupil_le f_Pupil_or f_Pupil_and f_Pupil_sub f_Pupil_eq f_l_pool f_l_draw f_l_some f_l_set f_l_pair f_law : Addr} (X : K.In h) (G : h.Ns mainGlobals mg) (hfa : mg "law" = some (.ref fa))
    {t_QUESTIONS : Tok}
    {od_is_question an_is_question od_Pupil_init an_Pupil_init od_Pupil_le an_Pupil_le od_Pupil_or an_Pupil_or od_Pupil_and an_Pupil_and od_Pupil_sub an_Pupil_sub od_Pupil_eq an_Pupil_eq od_l_pool an_l_pool od_l_draw an_l_draw od_l_some an_l_some od_l_set an_l_set od_l_pair an_l_pair od_law an_law : Option Addr}
    {sl_is_question sl_Pupil_init sl_Pupil_le sl_Pupil_or sl_Pupil_and sl_Pupil_sub sl_Pupil_eq sl_l_pool sl_l_draw sl_l_some sl_l_set sl_l_pair sl_law : Array (Option Value)}
    {oc_is_question kV_is_question dc_is_question pm_is_question cd_is_question ct_is_question oc_Pupil_init kV_Pupil_init dc_Pupil_init pm_Pupil_init cd_Pupil_init ct_Pupil_init oc_Pupil_le kV_Pupil_le dc_Pupil_le pm_Pupil_le cd_Pupil_le ct_Pupil_le oc_Pupil_or kV_Pupil_or dc_Pupil_or pm_Pupil_or cd_Pupil_or ct_Pupil_or oc_Pupil_and kV_Pupil_and dc_Pupil_and pm_Pupil_and cd_Pupil_and ct_Pupil_and oc_Pupil_sub kV_Pupil_sub dc_Pupil_sub pm_Pupil_sub cd_Pupil_sub ct_Pupil_sub oc_Pupil_eq kV_Pupil_eq dc_Pupil_eq pm_Pupil_eq cd_Pupil_eq ct_Pupil_eq oc_l_pool kV_l_pool dc_l_pool pm_l_pool cd_l_pool ct_l_pool oc_l_draw kV_l_draw dc_l_draw pm_l_draw cd_l_draw ct_l_draw oc_l_some kV_l_some dc_l_some pm_l_some cd_l_some ct_l_some oc_l_set kV_l_set dc_l_set pm_l_set cd_l_set ct_l_set oc_l_pair kV_l_pair dc_l_pair pm_l_pair cd_l_pair ct_l_pair oc_law kV_law dc_law pm_law cd_law ct_law : Value}
    (h_g_Pupil : PySem.W.nsIn K mainGlobals "Pupil" = some (some (.ref c_Pupil)))
    (h_pg_Pupil : PySem.W.plainGet K c_Pupil Str.empty = true)
    (h_hd_Pupil : PySem.W.hasDictIn K c_Pupil = true)
    (h_po_Pupil : PySem.W.plainOver K c_Pupil = true)
    (h_sa_Pupil : PySem.W.findIn K (.ref c_Pupil) "__setattr__" = some (some (.builtin "object.__setattr__")))
    (h_mkk_Pupil : PySem.W.makesIn K c_Pupil = true)
    (h_kc_Pupil : PySem.W.keepIn K (.ref c_Pupil) = true)
    (h_nA_Pupil_rights : PySem.W.findIn K (.ref c_Pupil) "rights" = some none)
    (h_sf_Pupil : PySem.W.selfFirst K c_Pupil = true)
    (h_ic1_Pupil : PySem.W.findIn K (.ref c_Pupil) "__class__" = some (some (.builtin "object.__class__")))
    (h_ic2_Pupil : PySem.W.specialIn K (.builtin "object.__class__") "__get__" = some (some (.builtin "getset_descriptor.__get__")))
    (h_ic3_Pupil : PySem.W.takesIn K (.builtin "object.__class__") = some true)
    (h_ic4_Pupil : PySem.W.mroIn K c_Pupil (.type "object") = some true)
    (h_a_is_question : PySem.W.nsIn K mainGlobals "is_question" = some (some (.ref f_is_question)))
    (h_l_is_question : K.lookup f_is_question = some ⟨oc_is_question, od_is_question, .func (PySem.W.fnOf "is_question" "is_question" (defArgs s_is_question) (defBody s_is_question) (defScope s_is_question) .none kV_is_question dc_is_question pm_is_question an_is_question cd_is_question ct_is_question), sl_is_question⟩)
    (h_c_is_question : PySem.W.codeIn K cd_is_question "is_question" = true)
    (h_k_is_question : PySem.W.keepIn K (.ref f_is_question) = true)
    (h_a_Pupil_init : PySem.W.findIn K (.ref c_Pupil) "__init__" = some (some (.ref f_Pupil_init)))
    (h_i_Pupil_init : PySem.W.isFn K (.ref f_Pupil_init) = true)
    (h_l_Pupil_init : K.lookup f_Pupil_init = some ⟨oc_Pupil_init, od_Pupil_init, .func (PySem.W.fnOf "__init__" "Pupil.__init__" (defArgs s_Pupil_init) (defBody s_Pupil_init) (defScope s_Pupil_init) .none kV_Pupil_init dc_Pupil_init pm_Pupil_init an_Pupil_init cd_Pupil_init ct_Pupil_init), sl_Pupil_init⟩)
    (h_c_Pupil_init : PySem.W.codeIn K cd_Pupil_init "Pupil.__init__" = true)
    (h_k_Pupil_init : PySem.W.keepIn K (.ref f_Pupil_init) = true)
    (h_a_Pupil_le : PySem.W.findIn K (.ref c_Pupil) "__le__" = some (some (.ref f_Pupil_le)))
    (h_i_Pupil_le : PySem.W.isFn K (.ref f_Pupil_le) = true)
    (h_l_Pupil_le : K.lookup f_Pupil_le = some ⟨oc_Pupil_le, od_Pupil_le, .func (PySem.W.fnOf "__le__" "Pupil.__le__" (defArgs s_Pupil_le) (defBody s_Pupil_le) (defScope s_Pupil_le) .none kV_Pupil_le dc_Pupil_le pm_Pupil_le an_Pupil_le cd_Pupil_le ct_Pupil_le), sl_Pupil_le⟩)
    (h_c_Pupil_le : PySem.W.codeIn K cd_Pupil_le "Pupil.__le__" = true)
    (h_k_Pupil_le : PySem.W.keepIn K (.ref f_Pupil_le) = true)
    (h_a_Pupil_or : PySem.W.findIn K (.ref c_Pupil) "__or__" = some (some (.ref f_Pupil_or)))
    (h_i_Pupil_or : PySem.W.isFn K (.ref f_Pupil_or) = true)
    (h_l_Pupil_or : K.lookup f_Pupil_or = some ⟨oc_Pupil_or, od_Pupil_or, .func (PySem.W.fnOf "__or__" "Pupil.__or__" (defArgs s_Pupil_or) (defBody s_Pupil_or) (defScope s_Pupil_or) .none kV_Pupil_or dc_Pupil_or pm_Pupil_or an_Pupil_or cd_Pupil_or ct_Pupil_or), sl_Pupil_or⟩)
    (h_c_Pupil_or : PySem.W.codeIn K cd_Pupil_or "Pupil.__or__" = true)
    (h_k_Pupil_or : PySem.W.keepIn K (.ref f_Pupil_or) = true)
    (h_a_Pupil_and : PySem.W.findIn K (.ref c_Pupil) "__and__" = some (some (.ref f_Pupil_and)))
    (h_i_Pupil_and : PySem.W.isFn K (.ref f_Pupil_and) = true)
    (h_l_Pupil_and : K.lookup f_Pupil_and = some ⟨oc_Pupil_and, od_Pupil_and, .func (PySem.W.fnOf "__and__" "Pupil.__and__" (defArgs s_Pupil_and) (defBody s_Pupil_and) (defScope s_Pupil_and) .none kV_Pupil_and dc_Pupil_and pm_Pupil_and an_Pupil_and cd_Pupil_and ct_Pupil_and), sl_Pupil_and⟩)
    (h_c_Pupil_and : PySem.W.codeIn K cd_Pupil_and "Pupil.__and__" = true)
    (h_k_Pupil_and : PySem.W.keepIn K (.ref f_Pupil_and) = true)
    (h_a_Pupil_sub : PySem.W.findIn K (.ref c_Pupil) "__sub__" = some (some (.ref f_Pupil_sub)))
    (h_i_Pupil_sub : PySem.W.isFn K (.ref f_Pupil_sub) = true)
    (h_l_Pupil_sub : K.lookup f_Pupil_sub = some ⟨oc_Pupil_sub, od_Pupil_sub, .func (PySem.W.fnOf "__sub__" "Pupil.__sub__" (defArgs s_Pupil_sub) (defBody s_Pupil_sub) (defScope s_Pupil_sub) .none kV_Pupil_sub dc_Pupil_sub pm_Pupil_sub an_Pupil_sub cd_Pupil_sub ct_Pupil_sub), sl_Pupil_sub⟩)
    (h_c_Pupil_sub : PySem.W.codeIn K cd_Pupil_sub "Pupil.__sub__" = true)
    (h_k_Pupil_sub : PySem.W.keepIn K (.ref f_Pupil_sub) = true)
    (h_a_Pupil_eq : PySem.W.findIn K (.ref c_Pupil) "__eq__" = some (some (.ref f_Pupil_eq)))
    (h_i_Pupil_eq : PySem.W.isFn K (.ref f_Pupil_eq) = true)
    (h_l_Pupil_eq : K.lookup f_Pupil_eq = some ⟨oc_Pupil_eq, od_Pupil_eq, .func (PySem.W.fnOf "__eq__" "Pupil.__eq__" (defArgs s_Pupil_eq) (defBody s_Pupil_eq) (defScope s_Pupil_eq) .none kV_Pupil_eq dc_Pupil_eq pm_Pupil_eq an_Pupil_eq cd_Pupil_eq ct_Pupil_eq), sl_Pupil_eq⟩)
    (h_c_Pupil_eq : PySem.W.codeIn K cd_Pupil_eq "Pupil.__eq__" = true)
    (h_k_Pupil_eq : PySem.W.keepIn K (.ref f_Pupil_eq) = true)
    (h_a_l_pool : PySem.W.nsIn K mainGlobals "_law_pool" = some (some (.ref f_l_pool)))
    (h_l_l_pool : K.lookup f_l_pool = some ⟨oc_l_pool, od_l_pool, .func (PySem.W.fnOf "_law_pool" "_law_pool" (defArgs s_l_pool) (defBody s_l_pool) (defScope s_l_pool) .none kV_l_pool dc_l_pool pm_l_pool an_l_pool cd_l_pool ct_l_pool), sl_l_pool⟩)
    (h_c_l_pool : PySem.W.codeIn K cd_l_pool "_law_pool" = true)
    (h_k_l_pool : PySem.W.keepIn K (.ref f_l_pool) = true)
    (h_a_l_draw : PySem.W.nsIn K mainGlobals "_law_draw" = some (some (.ref f_l_draw)))
    (h_l_l_draw : K.lookup f_l_draw = some ⟨oc_l_draw, od_l_draw, .func (PySem.W.fnOf "_law_draw" "_law_draw" (defArgs s_l_draw) (defBody s_l_draw) (defScope s_l_draw) .none kV_l_draw dc_l_draw pm_l_draw an_l_draw cd_l_draw ct_l_draw), sl_l_draw⟩)
    (h_c_l_draw : PySem.W.codeIn K cd_l_draw "_law_draw" = true)
    (h_k_l_draw : PySem.W.keepIn K (.ref f_l_draw) = true)
    (h_a_l_some : PySem.W.nsIn K mainGlobals "_law_some" = some (some (.ref f_l_some)))
    (h_l_l_some : K.lookup f_l_some = some ⟨oc_l_some, od_l_some, .func (PySem.W.fnOf "_law_some" "_law_some" (defArgs s_l_some) (defBody s_l_some) (defScope s_l_some) .none kV_l_some dc_l_some pm_l_some an_l_some cd_l_some ct_l_some), sl_l_some⟩)
    (h_c_l_some : PySem.W.codeIn K cd_l_some "_law_some" = true)
    (h_k_l_some : PySem.W.keepIn K (.ref f_l_some) = true)
    (h_a_l_set : PySem.W.nsIn K mainGlobals "_law_set" = some (some (.ref f_l_set)))
    (h_l_l_set : K.lookup f_l_set = some ⟨oc_l_set, od_l_set, .func (PySem.W.fnOf "_law_set" "_law_set" (defArgs s_l_set) (defBody s_l_set) (defScope s_l_set) .none kV_l_set dc_l_set pm_l_set an_l_set cd_l_set ct_l_set), sl_l_set⟩)
    (h_c_l_set : PySem.W.codeIn K cd_l_set "_law_set" = true)
    (h_k_l_set : PySem.W.keepIn K (.ref f_l_set) = true)
    (h_a_l_pair : PySem.W.nsIn K mainGlobals "_law_pair" = some (some (.ref f_l_pair)))
    (h_l_l_pair : K.lookup f_l_pair = some ⟨oc_l_pair, od_l_pair, .func (PySem.W.fnOf "_law_pair" "_law_pair" (defArgs s_l_pair) (defBody s_l_pair) (defScope s_l_pair) .none kV_l_pair dc_l_pair pm_l_pair an_l_pair cd_l_pair ct_l_pair), sl_l_pair⟩)
    (h_c_l_pair : PySem.W.codeIn K cd_l_pair "_law_pair" = true)
    (h_k_l_pair : PySem.W.keepIn K (.ref f_l_pair) = true)
    (h_a_law : PySem.W.nsIn K mainGlobals "law" = some (some (.ref f_law)))
    (h_l_law : K.lookup f_law = some ⟨oc_law, od_law, .func (PySem.W.fnOf "law" "law" (defArgs s_law) (defBody s_law) (defScope s_law) .none kV_law dc_law pm_law an_law cd_law ct_law), sl_law⟩)
    (h_c_law : PySem.W.codeIn K cd_law "law" = true)
    (h_k_law : PySem.W.keepIn K (.ref f_law) = true)
    (h_g_QUESTIONS : PySem.W.nsIn K mainGlobals "QUESTIONS" = some (some (.int 48 t_QUESTIONS)))
    (h_z_abs : PySem.W.nsIn K mainGlobals "abs" = some none)
    (h_z_all : PySem.W.nsIn K mainGlobals "all" = some none)
    (h_z_bool : PySem.W.nsIn K mainGlobals "bool" = some none)
    (h_z_int : PySem.W.nsIn K mainGlobals "int" = some none)
    (h_z_isinstance : PySem.W.nsIn K mainGlobals "isinstance" = some none)
    (h_z_len : PySem.W.nsIn K mainGlobals "len" = some none)
    (h_z_list : PySem.W.nsIn K mainGlobals "list" = some none)
    (h_z_range : PySem.W.nsIn K mainGlobals "range" = some none)
    (h_z_set : PySem.W.nsIn K mainGlobals "set" = some none)
    (h_z_sorted : PySem.W.nsIn K mainGlobals "sorted" = some none)
    (h_z_tuple : PySem.W.nsIn K mainGlobals "tuple" = some none) :
    ∃ fd : FuncData, (∀ (s : Shared) (v : Value), BindsTo s fd ⟨[v], []⟩ [("_law_script", v)]) ∧ ∀ base : Heap, K.In base → base.Ns mainGlobals mg → FnOk l.prog w K mg base CX0 6 fa fd ["_law_script"] (sp_law K) := by
  have e := hfa.symm.trans (PySem.W.mg_of X G h_a_law)
  cases e
  have T : Txt K mg (Ad.mk c_Pupil f_is_question (PySem.W.fnOf "is_question" "is_question" (defArgs s_is_question) (defBody s_is_question) (defScope s_is_question) .none kV_is_question dc_is_question pm_is_question an_is_question cd_is_question ct_is_question) f_Pupil_init (PySem.W.fnOf "__init__" "Pupil.__init__" (defArgs s_Pupil_init) (defBody s_Pupil_init) (defScope s_Pupil_init) .none kV_Pupil_init dc_Pupil_init pm_Pupil_init an_Pupil_init cd_Pupil_init ct_Pupil_init) f_Pupil_le (PySem.W.fnOf "__le__" "Pupil.__le__" (defArgs s_Pupil_le) (defBody s_Pupil_le) (defScope s_Pupil_le) .none kV_Pupil_le dc_Pupil_le pm_Pupil_le an_Pupil_le cd_Pupil_le ct_Pupil_le) f_Pupil_or (PySem.W.fnOf "__or__" "Pupil.__or__" (defArgs s_Pupil_or) (defBody s_Pupil_or) (defScope s_Pupil_or) .none kV_Pupil_or dc_Pupil_or pm_Pupil_or an_Pupil_or cd_Pupil_or ct_Pupil_or) f_Pupil_and (PySem.W.fnOf "__and__" "Pupil.__and__" (defArgs s_Pupil_and) (defBody s_Pupil_and) (defScope s_Pupil_and) .none kV_Pupil_and dc_Pupil_and pm_Pupil_and an_Pupil_and cd_Pupil_and ct_Pupil_and) f_Pupil_sub (PySem.W.fnOf "__sub__" "Pupil.__sub__" (defArgs s_Pupil_sub) (defBody s_Pupil_sub) (defScope s_Pupil_sub) .none kV_Pupil_sub dc_Pupil_sub pm_Pupil_sub an_Pupil_sub cd_Pupil_sub ct_Pupil_sub) f_Pupil_eq (PySem.W.fnOf "__eq__" "Pupil.__eq__" (defArgs s_Pupil_eq) (defBody s_Pupil_eq) (defScope s_Pupil_eq) .none kV_Pupil_eq dc_Pupil_eq pm_Pupil_eq an_Pupil_eq cd_Pupil_eq ct_Pupil_eq) f_l_pool (PySem.W.fnOf "_law_pool" "_law_pool" (defArgs s_l_pool) (defBody s_l_pool) (defScope s_l_pool) .none kV_l_pool dc_l_pool pm_l_pool an_l_pool cd_l_pool ct_l_pool) f_l_draw (PySem.W.fnOf "_law_draw" "_law_draw" (defArgs s_l_draw) (defBody s_l_draw) (defScope s_l_draw) .none kV_l_draw dc_l_draw pm_l_draw an_l_draw cd_l_draw ct_l_draw) f_l_some (PySem.W.fnOf "_law_some" "_law_some" (defArgs s_l_some) (defBody s_l_some) (defScope s_l_some) .none kV_l_some dc_l_some pm_l_some an_l_some cd_l_some ct_l_some) f_l_set (PySem.W.fnOf "_law_set" "_law_set" (defArgs s_l_set) (defBody s_l_set) (defScope s_l_set) .none kV_l_set dc_l_set pm_l_set an_l_set cd_l_set ct_l_set) f_l_pair (PySem.W.fnOf "_law_pair" "_law_pair" (defArgs s_l_pair) (defBody s_l_pair) (defScope s_l_pair) .none kV_l_pair dc_l_pair pm_l_pair an_l_pair cd_l_pair ct_l_pair) fa (PySem.W.fnOf "law" "law" (defArgs s_law) (defBody s_law) (defScope s_law) .none kV_law dc_law pm_law an_law cd_law ct_law) t_QUESTIONS) :=
    Txt.mk (PySem.W.mg_of X G h_g_Pupil) (⟨h_pg_Pupil, h_hd_Pupil, h_po_Pupil, h_sa_Pupil⟩) (⟨h_mkk_Pupil, h_a_Pupil_init, h_i_Pupil_init, h_kc_Pupil⟩) (h_nA_Pupil_rights) (h_sf_Pupil) (⟨h_ic1_Pupil, h_ic2_Pupil, h_ic3_Pupil, h_ic4_Pupil⟩) (if_pos (beq_self_eq_true _)) (fun_mk h_l_is_question h_c_is_question h_k_is_question) ((fun_mk (st := s_is_question) h_l_is_question h_c_is_question h_k_is_question).binds (ps := P_is_question) fun _ _ _ _ _ _ us hl => match us, hl with | [_], _ => rfl) (h_k_is_question) (PySem.W.mg_of X G h_a_is_question) (fun_mk h_l_Pupil_init h_c_Pupil_init h_k_Pupil_init) ((fun_mk (st := s_Pupil_init) h_l_Pupil_init h_c_Pupil_init h_k_Pupil_init).binds (ps := P_Pupil_init) fun _ _ _ _ _ _ us hl => match us, hl with | [_, _], _ => rfl) (h_k_Pupil_init) (h_i_Pupil_init) (fun_mk h_l_Pupil_le h_c_Pupil_le h_k_Pupil_le) ((fun_mk (st := s_Pupil_le) h_l_Pupil_le h_c_Pupil_le h_k_Pupil_le).binds (ps := P_Pupil_le) fun _ _ _ _ _ _ us hl => match us, hl with | [_, _], _ => rfl) (h_k_Pupil_le) (h_i_Pupil_le) (h_a_Pupil_le) (fun_mk h_l_Pupil_or h_c_Pupil_or h_k_Pupil_or) ((fun_mk (st := s_Pupil_or) h_l_Pupil_or h_c_Pupil_or h_k_Pupil_or).binds (ps := P_Pupil_or) fun _ _ _ _ _ _ us hl => match us, hl with | [_, _], _ => rfl) (h_k_Pupil_or) (h_i_Pupil_or) (h_a_Pupil_or) (fun_mk h_l_Pupil_and h_c_Pupil_and h_k_Pupil_and) ((fun_mk (st := s_Pupil_and) h_l_Pupil_and h_c_Pupil_and h_k_Pupil_and).binds (ps := P_Pupil_and) fun _ _ _ _ _ _ us hl => match us, hl with | [_, _], _ => rfl) (h_k_Pupil_and) (h_i_Pupil_and) (h_a_Pupil_and) (fun_mk h_l_Pupil_sub h_c_Pupil_sub h_k_Pupil_sub) ((fun_mk (st := s_Pupil_sub) h_l_Pupil_sub h_c_Pupil_sub h_k_Pupil_sub).binds (ps := P_Pupil_sub) fun _ _ _ _ _ _ us hl => match us, hl with | [_, _], _ => rfl) (h_k_Pupil_sub) (h_i_Pupil_sub) (h_a_Pupil_sub) (fun_mk h_l_Pupil_eq h_c_Pupil_eq h_k_Pupil_eq) ((fun_mk (st := s_Pupil_eq) h_l_Pupil_eq h_c_Pupil_eq h_k_Pupil_eq).binds (ps := P_Pupil_eq) fun _ _ _ _ _ _ us hl => match us, hl with | [_, _], _ => rfl) (h_k_Pupil_eq) (h_i_Pupil_eq) (h_a_Pupil_eq) (fun_mk h_l_l_pool h_c_l_pool h_k_l_pool) ((fun_mk (st := s_l_pool) h_l_l_pool h_c_l_pool h_k_l_pool).binds (ps := P_l_pool) fun _ _ _ _ _ _ us hl => match us, hl with | [_], _ => rfl) (h_k_l_pool) (PySem.W.mg_of X G h_a_l_pool) (fun_mk h_l_l_draw h_c_l_draw h_k_l_draw) ((fun_mk (st := s_l_draw) h_l_l_draw h_c_l_draw h_k_l_draw).binds (ps := P_l_draw) fun _ _ _ _ _ _ us hl => match us, hl with | [_, _], _ => rfl) (h_k_l_draw) (PySem.W.mg_of X G h_a_l_draw) (fun_mk h_l_l_some h_c_l_some h_k_l_some) ((fun_mk (st := s_l_some) h_l_l_some h_c_l_some h_k_l_some).binds (ps := P_l_some) fun _ _ _ _ _ _ us hl => match us, hl with | [_, _], _ => rfl) (h_k_l_some) (PySem.W.mg_of X G h_a_l_some) (fun_mk h_l_l_set h_c_l_set h_k_l_set) ((fun_mk (st := s_l_set) h_l_l_set h_c_l_set h_k_l_set).binds (ps := P_l_set) fun _ _ _ _ _ _ us hl => match us, hl with | [_], _ => rfl) (h_k_l_set) (PySem.W.mg_of X G h_a_l_set) (fun_mk h_l_l_pair h_c_l_pair h_k_l_pair) ((fun_mk (st := s_l_pair) h_l_l_pair h_c_l_pair h_k_l_pair).binds (ps := P_l_pair) fun _ _ _ _ _ _ us hl => match us, hl with | [_, _], _ => rfl) (h_k_l_pair) (PySem.W.mg_of X G h_a_l_pair) (fun_mk h_l_law h_c_law h_k_law) ((fun_mk (st := s_law) h_l_law h_c_law h_k_law).binds (ps := P_law) fun _ _ _ _ _ _ us hl => match us, hl with | [_], _ => rfl) (h_k_law) (PySem.W.mg_of X G h_a_law) (PySem.W.mg_of X G h_g_QUESTIONS) (PySem.W.mg_none_of X G h_z_abs) (PySem.W.mg_none_of X G h_z_all) (PySem.W.mg_none_of X G h_z_bool) (PySem.W.mg_none_of X G h_z_int) (PySem.W.mg_none_of X G h_z_isinstance) (PySem.W.mg_none_of X G h_z_len) (PySem.W.mg_none_of X G h_z_list) (PySem.W.mg_none_of X G h_z_range) (PySem.W.mg_none_of X G h_z_set) (PySem.W.mg_none_of X G h_z_sorted) (PySem.W.mg_none_of X G h_z_tuple)
  exact ⟨_, fun s v => .of_eq rfl, fun base _ _ => ok_law T⟩
theorem walk {l : PySem.W.OpenLaw} {q : Program} {loose : List Str} {XP : (Str → Option Value) → Heap → Prop} {YP : World → Heap → Prop} {d : DefRec} {K : Params → PySem.W.Frag} (hn : l.most = some 63) (hdf : d.params.defaults = [])
    (hY : ∀ (w : World) (h : Heap), YP w h → (K w.params).In h)
    (F : ∀ (w : World) (mg : Str → Option Value) (fa : Addr) (h : Heap), (K w.params).In h → h.Ns mainGlobals mg → mg d.name = some (.ref fa) →
      ∃ fd : FuncData, (∀ (s : Shared) (u : Value), BindsTo s fd ⟨[u], []⟩ [("_law_script", u)]) ∧ ∀ base : Heap, (K w.params).In base → base.Ns mainGlobals mg → FnOk l.prog w (K w.params) mg base CX0 6 fa fd ["_law_script"] (sp_law (K w.params))) :
    PySem.W.WalkO q loose XP YP l.row.toRowW d [] (fun f vs => PySem.call f vs) :=
  L2.walk_of (n := 63) (k := 6) (x := "_law_script") (CX := fun _ => CX0) (sp := fun w => sp_law (K w.params)) hn (by decide) hdf ⟨rfl, by decide, by decide⟩ hY F (fun _ _ a ns hl hO hS => ⟨a, ns, rfl, scr_of hO hS, hl, fun _ => rfl⟩) fun _ _ _ _ _ z => z
end K05

open PySem PySem.W PyProof.Rows in
set_option maxRecDepth 100000 in
set_option maxHeartbeats 0 in
theorem PySem.Challenge.cw_steppedtests_k05_pupil_operators_holds : PySem.Challenge.rw_steppedtests_k05_pupil_operators.Holds := by
  w_on; o_law; k_head; (case hw => w_witness2)
  k_fill
  refine K05.walk (l := PySem.Challenge.rw_steppedtests_k05_pupil_operators) rfl rfl (fun w h Y => PySem.W.kIn_of Y) ?F
  case F =>
    intro w mg fa h KX G hmg
    refine' K05.all_mk KX G hmg ?h_g_Pupil ?h_pg_Pupil ?h_hd_Pupil ?h_po_Pupil ?h_sa_Pupil ?h_mkk_Pupil ?h_kc_Pupil ?h_nA_Pupil_rights ?h_sf_Pupil ?h_ic1_Pupil ?h_ic2_Pupil ?h_ic3_Pupil ?h_ic4_Pupil ?h_a_is_question ?h_l_is_question ?h_c_is_question ?h_k_is_question ?h_a_Pupil_init ?h_i_Pupil_init ?h_l_Pupil_init ?h_c_Pupil_init ?h_k_Pupil_init ?h_a_Pupil_le ?h_i_Pupil_le ?h_l_Pupil_le ?h_c_Pupil_le ?h_k_Pupil_le ?h_a_Pupil_or ?h_i_Pupil_or ?h_l_Pupil_or ?h_c_Pupil_or ?h_k_Pupil_or ?h_a_Pupil_and ?h_i_Pupil_and ?h_l_Pupil_and ?h_c_Pupil_and ?h_k_Pupil_and ?h_a_Pupil_sub ?h_i_Pupil_sub ?h_l_Pupil_sub ?h_c_Pupil_sub ?h_k_Pupil_sub ?h_a_Pupil_eq ?h_i_Pupil_eq ?h_l_Pupil_eq ?h_c_Pupil_eq ?h_k_Pupil_eq ?h_a_l_pool ?h_l_l_pool ?h_c_l_pool ?h_k_l_pool ?h_a_l_draw ?h_l_l_draw ?h_c_l_draw ?h_k_l_draw ?h_a_l_some ?h_l_l_some ?h_c_l_some ?h_k_l_some ?h_a_l_set ?h_l_l_set ?h_c_l_set ?h_k_l_set ?h_a_l_pair ?h_l_l_pair ?h_c_l_pair ?h_k_l_pair ?h_a_law ?h_l_law ?h_c_law ?h_k_law ?h_g_QUESTIONS ?h_z_abs ?h_z_all ?h_z_bool ?h_z_int ?h_z_isinstance ?h_z_len ?h_z_list ?h_z_range ?h_z_set ?h_z_sorted ?h_z_tuple
    (case h_g_Pupil => k_is)
    (case h_pg_Pupil => k_is)
    (case h_hd_Pupil => k_is)
    (case h_po_Pupil => k_is)
    (case h_sa_Pupil => k_is)
    (case h_mkk_Pupil => k_is)
    (case h_kc_Pupil => k_is)
    (case h_nA_Pupil_rights => k_is)
    (case h_sf_Pupil => k_is)
    (case h_ic1_Pupil => k_is)
    (case h_ic2_Pupil => k_is)
    (case h_ic3_Pupil => k_is)
    (case h_ic4_Pupil => k_is)
    (case h_a_is_question => k_is)
    (case h_l_is_question => k_is)
    (case h_c_is_question => k_is)
    (case h_k_is_question => k_is)
    (case h_a_Pupil_init => k_is)
    (case h_i_Pupil_init => k_is)
    (case h_l_Pupil_init => k_is)
    (case h_c_Pupil_init => k_is)
    (case h_k_Pupil_init => k_is)
    (case h_a_Pupil_le => k_is)
    (case h_i_Pupil_le => k_is)
    (case h_l_Pupil_le => k_is)
    (case h_c_Pupil_le => k_is)
    (case h_k_Pupil_le => k_is)
    (case h_a_Pupil_or => k_is)
    (case h_i_Pupil_or => k_is)
    (case h_l_Pupil_or => k_is)
    (case h_c_Pupil_or => k_is)
    (case h_k_Pupil_or => k_is)
    (case h_a_Pupil_and => k_is)
    (case h_i_Pupil_and => k_is)
    (case h_l_Pupil_and => k_is)
    (case h_c_Pupil_and => k_is)
    (case h_k_Pupil_and => k_is)
    (case h_a_Pupil_sub => k_is)
    (case h_i_Pupil_sub => k_is)
    (case h_l_Pupil_sub => k_is)
    (case h_c_Pupil_sub => k_is)
    (case h_k_Pupil_sub => k_is)
    (case h_a_Pupil_eq => k_is)
    (case h_i_Pupil_eq => k_is)
    (case h_l_Pupil_eq => k_is)
    (case h_c_Pupil_eq => k_is)
    (case h_k_Pupil_eq => k_is)
    (case h_a_l_pool => k_is)
    (case h_l_l_pool => k_is)
    (case h_c_l_pool => k_is)
    (case h_k_l_pool => k_is)
    (case h_a_l_draw => k_is)
    (case h_l_l_draw => k_is)
    (case h_c_l_draw => k_is)
    (case h_k_l_draw => k_is)
    (case h_a_l_some => k_is)
    (case h_l_l_some => k_is)
    (case h_c_l_some => k_is)
    (case h_k_l_some => k_is)
    (case h_a_l_set => k_is)
    (case h_l_l_set => k_is)
    (case h_c_l_set => k_is)
    (case h_k_l_set => k_is)
    (case h_a_l_pair => k_is)
    (case h_l_l_pair => k_is)
    (case h_c_l_pair => k_is)
    (case h_k_l_pair => k_is)
    (case h_a_law => k_is)
    (case h_l_law => k_is)
    (case h_c_law => k_is)
    (case h_k_law => k_is)
    (case h_g_QUESTIONS => k_is)
    (case h_z_abs => k_is)
    (case h_z_all => k_is)
    (case h_z_bool => k_is)
    (case h_z_int => k_is)
    (case h_z_isinstance => k_is)
    (case h_z_len => k_is)
    (case h_z_list => k_is)
    (case h_z_range => k_is)
    (case h_z_set => k_is)
    (case h_z_sorted => k_is)
    (case h_z_tuple => k_is)
