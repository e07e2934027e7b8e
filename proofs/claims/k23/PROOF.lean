import PyProof.Rows.All
import Wide.All
import OpenK.AllK
import Wide.FinOn
import HandS.ForMost
import HandS.ForExc
import HandS.OwnEq
import HandS.Wide
import HandS.SetFor
import HandS.Strs
import HandS.IsInst
import HandS.TupAny
import HandS.Style
import HandS.Codes
import HandS.Flow
import HandS.Evl
import HandS.Conv
import KE.KEqDeep
import HandS.Deep
import PySem.Challenge.RW_steppedtests_k23_covering_states
set_option Elab.async false
set_option linter.all false
set_option maxRecDepth 100000
set_option exponentiation.threshold 500
set_option maxHeartbeats 4000000
namespace L2
open PySem PySem.Spec PyProof.Rows
/-! ## own special methods of a class: | & - by __or__ .., <= == by __le__ .., in by __contains__, len by __len__ -/
section
variable {X : Cx} {n : Nat} {CX : CXT} {C f : Addr} {fd : FuncData} {ps : List Str} {sp : Sp} {E : XK} {pins : List (Addr × Obj)} {σ : St} {H : Hp} {s : Shared}
theorem run_own {A : Around} {vs : List V} {us : List Value} {Q : VK} (F : FnOk X.prog X.w X.K X.mg X.base CX n f fd ps sp) (sb : Sub X n A) (hb : Binds X.K fd ps []) (hx : Passes CX X E)
    (I : Inv X pins σ H s) (r : Vals vs us) (h : sp vs H Q E) : wpAny (model X.prog X.w) A (call (.ref f) us) (EP X pins σ Q) X.xe s := by
  have e0 : Env0 X.prog X.w X.K X.mg X.base A X.stack s H := by
    have e := I.env0
    exact ⟨by rw [sb.fr]; exact e.frames, e.mod, e.bs, e.bsz, e.funs, e.frf, e.hok, e.bare⟩
  have hl := F.len _ _ _ _ h
  have hl2 : us.length = ps.length := by rw [← hl, r.length]
  refine wpAny_call (codeAny_mono (F.run A X.stack s H ⟨us, []⟩ us vs Q E sb.room e0 (by
    have := hb s us I.kIn (by simpa using hl2)
    simpa using this) r h) fun r' s' hq => ?_)
  cases r' with
  | error e => exact hx pins σ H s e s' I hq
  | ok fl =>
    cases fl with
    | ret w => exact I.after hq
    | next => exact False.elim hq
    | brk => exact False.elim hq
    | cont => exact False.elim hq
/-- a value of the layer is never NotImplemented -/
theorem back_ep {u : Value} {s' : Shared} {Q : VK} (h : EP X pins σ Q u s') : PySem.W.CmpBack (EP X pins σ Q) u s' := by
  obtain ⟨v, H', I', r, q⟩ := id h
  cases v with
  | non => cases r; exact h
  | bl b => cases r; exact h
  | int i => obtain ⟨t, rfl⟩ := r; exact h
  | str x => obtain ⟨t, rfl⟩ := r; exact h
  | byt x => obtain ⟨t, rfl⟩ := r; exact h
  | flt x => obtain ⟨t, rfl⟩ := r; exact h
  | ref a => cases r; exact h
  | ty m => cases r; exact h
def rOwn (C : Addr) (sp : Sp) (E : XK) : R2 := fun x y H Q => ∃ a b dx dy fs gs, x = .ref a ∧ y = .ref b ∧ H a = some (.ins C dx fs) ∧ H b = some (.ins C dy gs) ∧ sp [.ref a, .ref b] H Q E
theorem op_own {op : Operator} (F : FnOk X.prog X.w X.K X.mg X.base CX n f fd ps sp) (hr : Room n X.A) (hs : PySem.W.findIn X.K (.ref C) (PySem.dunder op.info.2) = some (some (.ref f))) (hf : PySem.W.isFn X.K (.ref f) = true)
    (hc : PySem.W.selfFirst X.K C = true) (hb : Binds X.K fd ps []) (hx : Passes CX X E) : OpR X (binaryOp op) (rOwn C sp E) := by
  intro pins s σ H x y v u Q I rx ry h
  obtain ⟨a, b, dx, dy, fs, gs, rfl, rfl, ha, hb', h⟩ := h
  cases rx
  cases ry
  obtain ⟨mA, J, _⟩ := ins_get I.hok ha
  obtain ⟨mB, J', _⟩ := ins_get I.hok hb'
  obtain ⟨od, J, _⟩ := J.look
  obtain ⟨od', J', _⟩ := J'.look
  obtain ⟨m, hF⟩ := I.fr
  refine PySem.W.binop_K hF I.ok.mod.kin J J'.type hc hs hf ?_
  exact thn (run_own (vs := [.ref a, .ref b]) F ⟨hr, rfl⟩ hb hx I (.cons rfl (.cons rfl .nil)) h) fun u s' q => back_ep q
theorem cmp_own {op : CmpOp} (F : FnOk X.prog X.w X.K X.mg X.base CX n f fd ps sp) (hr : Room n X.A) (hs : PySem.W.findIn X.K (.ref C) (PySem.cmpInfo op).2.1 = some (some (.ref f))) (hf : PySem.W.isFn X.K (.ref f) = true)
    (hb : Binds X.K fd ps []) (hx : Passes CX X E) : OpR X (richCompare op) (rOwn C sp E) := by
  intro pins s σ H x y v u Q I rx ry h
  obtain ⟨a, b, dx, dy, fs, gs, rfl, rfl, ha, hb', h⟩ := h
  cases rx
  cases ry
  obtain ⟨mA, J, _⟩ := ins_get I.hok ha
  obtain ⟨mB, J', _⟩ := ins_get I.hok hb'
  obtain ⟨od, J, _⟩ := J.look
  obtain ⟨od', J', _⟩ := J'.look
  obtain ⟨m, hF⟩ := I.fr
  refine PySem.W.cmp_K hr.units0 hF I.ok.mod.kin J J'.type (by simp [PySem.W.notFirst]) hs hf ?_
  exact thn (run_own (vs := [.ref a, .ref b]) F ⟨hr, rfl⟩ hb hx I (.cons rfl (.cons rfl .nil)) h) fun u s' q => back_ep q
def rOwnIn (C : Addr) (sp : Sp) (E : XK) (neg : Bool) : R2 := fun x y H Q => ∃ b dy gs, y = .ref b ∧ H b = some (.ins C dy gs) ∧ sp [.ref b, x] H (fun v H' => ∃ k, v = .bl k ∧ Q (.bl (if neg then !k else k)) H') E
theorem in_own (F : FnOk X.prog X.w X.K X.mg X.base CX n f fd ps sp) (hr : Room n X.A) (hs : PySem.W.findIn X.K (.ref C) "__contains__" = some (some (.ref f))) (hf : PySem.W.isFn X.K (.ref f) = true)
    (hb : Binds X.K fd ps []) (hx : Passes CX X E) : OpR X (compareOp .In) (rOwnIn C sp E false) := by
  intro pins s σ H x y v u Q I rx ry h
  obtain ⟨b, dy, gs, rfl, hb', h⟩ := h
  cases ry
  obtain ⟨mB, J', _⟩ := ins_get I.hok hb'
  obtain ⟨od', J', _⟩ := J'.look
  obtain ⟨m, hF⟩ := I.fr
  refine PySem.W.in_K hF I.ok.mod.kin J' hs hf ?_
  refine thn (run_own (vs := [.ref b, x]) F ⟨hr, rfl⟩ hb hx I (.cons rfl (.cons rx .nil)) h) fun u s' q => ?_
  obtain ⟨z, H', I', rz, k, rfl, q⟩ := q
  cases rz
  exact wpAny_truthy_bool ⟨.bl k, H', I', rfl, q⟩
theorem notIn_own (F : FnOk X.prog X.w X.K X.mg X.base CX n f fd ps sp) (hr : Room n X.A) (hs : PySem.W.findIn X.K (.ref C) "__contains__" = some (some (.ref f))) (hf : PySem.W.isFn X.K (.ref f) = true)
    (hb : Binds X.K fd ps []) (hx : Passes CX X E) : OpR X (compareOp .NotIn) (rOwnIn C sp E true) := by
  intro pins s σ H x y v u Q I rx ry h
  obtain ⟨b, dy, gs, rfl, hb', h⟩ := h
  cases ry
  obtain ⟨mB, J', _⟩ := ins_get I.hok hb'
  obtain ⟨od', J', _⟩ := J'.look
  obtain ⟨m, hF⟩ := I.fr
  refine PySem.W.notIn_K hF I.ok.mod.kin J' hs hf ?_
  refine thn (run_own (vs := [.ref b, x]) F ⟨hr, rfl⟩ hb hx I (.cons rfl (.cons rx .nil)) h) fun u s' q => ?_
  obtain ⟨z, H', I', rz, k, rfl, q⟩ := q
  cases rz
  exact wpAny_truthy_bool ⟨.bl (!k), H', I', rfl, q⟩
def rOwnLen (C : Addr) (sp : Sp) (E : XK) : List V → Hp → VK → Prop := fun xs H Q => ∃ b dy gs, xs = [.ref b] ∧ H b = some (.ins C dy gs) ∧ sp [.ref b] H (fun v H' => ∃ k : Int, v = .int k ∧ 0 ≤ k ∧ k < 2 ^ 63 ∧ Q (.int k) H') E
theorem len_own (F : FnOk X.prog X.w X.K X.mg X.base CX n f fd ps sp) (hr : Room (n + 1) X.A) (hs : PySem.W.findIn X.K (.ref C) "__len__" = some (some (.ref f))) (hf : PySem.W.isFn X.K (.ref f) = true)
    (hb : Binds X.K fd ps []) (hx : Passes CX X E) : CallR X (.builtin "len") (rOwnLen C sp E) := by
  intro pins s σ H xs us Q I r h
  obtain ⟨b, dy, gs, rfl, hb', h⟩ := h
  rw [Vals.ref1 r]
  obtain ⟨mB, J', _⟩ := ins_get I.hok hb'
  obtain ⟨od', J', _⟩ := J'.look
  obtain ⟨m, hF⟩ := I.fr
  refine PySem.W.len_K hF I.ok.mod.kin J' hs hf ?_
  have sb : Sub X (n + 1) X.A := ⟨hr, rfl⟩
  refine thn (run_own (vs := [.ref b]) F sb.in1 hb hx I (.cons rfl .nil) h) fun u s' q => ?_
  obtain ⟨z, H', I', rz, k, rfl, h0, h1, q⟩ := q
  obtain ⟨t, rfl⟩ := rz
  exact ⟨⟨h0, h1⟩, .int k, H', I'.tok _, ⟨_, rfl⟩, q⟩
/-- web[i] by an own __getitem__ -/
def rOwnIx (C : Addr) (sp : Sp) (E : XK) : R2 := fun x y H Q => ∃ a dx fs, x = .ref a ∧ H a = some (.ins C dx fs) ∧ sp [.ref a, y] H Q E
theorem pe_ownIx {a b : Expr} {ta tb : TE} {pos : Pos} (F : FnOk X.prog X.w X.K X.mg X.base CX n f fd ps sp) (hr : Room (n + 1) X.A) (hs : PySem.W.findIn X.K (.ref C) "__getitem__" = some (some (.ref f))) (hfn : PySem.W.fnIn X.K f = true) (hf : PySem.W.isFn X.K (.ref f) = true)
    (hb : Binds X.K fd ps []) (hx : Passes CX X E) (ha : PE X a ta) (hb' : PE X b tb)
    (hsl : ∀ x i, subscripted b true (.ref x) i = runValue (.builtin "lifetime.subscript" ⟨[.ref x, i], []⟩) := by intro _ _; with_unfolding_all rfl) : PE X (.Subscript a b pos) (tOp (rOwnIx C sp E) ta tb) := by
  refine ⟨fun pins s σ H Q I h => ?_⟩
  refine Subscript_ (binT ha hb' I h fun v u s2 x y H2 I2 rx ry q => ?_)
  obtain ⟨c, dx, fs, rfl, hc, q⟩ := q
  cases rx
  obtain ⟨mB, J', _⟩ := ins_get I2.hok hc
  obtain ⟨od', J', _⟩ := J'.look
  obtain ⟨m, hF⟩ := I2.fr
  have sb : Sub X (n + 1) X.A := ⟨hr, rfl⟩
  exact PySem.W.sub_K hF I2.ok.mod.kin J' hs hfn hf (run_own (vs := [.ref c, y]) F sb.in1 hb hx I2 (.cons rfl (.cons ry .nil)) q) (hsl _ _)
/-- set(t), t a tuple of ints -/
def rSetOf (K : PySem.W.Frag) (w : World) : List V → Hp → VK → Prop := fun xs H Q => ∃ (l : Addr) (ns : List Int), xs = [V.ref l] ∧ SqT K H l (ns.map V.int) ∧ ns.length ≤ 1000 ∧
  ∀ p c, H p = none → c ≤ ns.length → (∀ L : List Int, (∀ k ∈ ns, k ∈ L) → c ≤ L.length) → Q (.ref p) (upd H p (SetO w p (fun j => decide (j ∈ ns)) c))
theorem nodup_le : ∀ (l D : List Int), l.Nodup → (∀ x ∈ l, x ∈ D) → l.length ≤ D.length
  | [], _, _, _ => Nat.zero_le _
  | x :: r, D, hn, h => by
    have hx : x ∈ D := h x List.mem_cons_self
    obtain ⟨h1, h2⟩ := List.nodup_cons.mp hn
    have ih := nodup_le r (D.erase x) h2 fun y hy => by
      have hne : y ≠ x := fun e => h1 (e ▸ hy)
      exact (List.mem_erase_of_ne hne).mpr (h y (List.mem_cons_of_mem _ hy))
    rw [List.length_erase_of_mem hx] at ih
    have : 0 < D.length := List.length_pos_of_mem hx
    rw [List.length_cons]
    omega
theorem cr_setOf (hc : X.calm = true) : CallR X (.type "set") (rSetOf X.K X.w) := by
  intro pins s σ H xs us Q I r h
  obtain ⟨l, ns, rfl, hq, hl, q⟩ := h
  rw [Vals.ref1 r]
  obtain ⟨its, rv, pt, hz⟩ := I.tuple hq
  have hi : IntsAre its.toArray.toList ns := by simpa using ints_of_vals rv
  refine call_set_tupI ns (I.ok.hd hc) (show s.heap.IsTuple l its.toArray from pt) hi (by unfold scanBound; omega) fun h' tk c R hcn k => ?_
  have hn : H s.heap.objs.size = none := I.hok.fresh (Nat.le_refl _)
  refine ⟨.ref s.heap.objs.size, upd H s.heap.objs.size (SetO X.w s.heap.objs.size (fun j => decide (j ∈ ns)) c), I.laid (t' := tk) k (Nat.le_refl _) (setO_new R), rfl, q _ c hn hcn fun L hL => ?_⟩
  obtain ⟨o, es, ep, t, ho, hex, hdt, g, nd, hm2, hb, hf, hn2, hr, hl2⟩ := R
  have z := nodup_le _ L nd fun x hx => hL x (of_decide_eq_true ((hm2 x).mpr hx))
  rw [List.length_map, Array.length_toList, hn2] at z
  exact z
end
end L2

namespace L2
open PySem PySem.Spec PyProof.Rows
/-! ## heaps that keep all but the pool -/
def isPool (o : HO) : Prop := ∃ (a : Addr) (c i b s : Int), o = .lst [.ref a, .int c, .int i, .int b, .int s]
def Gd (H H' : Hp) : Prop := (∀ b o, ¬ isPool o → H b = some o → H' b = some o) ∧ ∀ b o, isPool o → H b = some o → ∃ o', isPool o' ∧ H' b = some o'
theorem Gd.refl (H : Hp) : Gd H H := ⟨fun _ _ _ h => h, fun _ o n h => ⟨o, n, h⟩⟩
theorem Gd.trans {H H1 H2 : Hp} (a : Gd H H1) (b : Gd H1 H2) : Gd H H2 := ⟨fun x o n h => b.1 x o n (a.1 x o n h), fun x o n h => let ⟨o', n', h'⟩ := a.2 x o n h; b.2 x o' n' h'⟩
theorem Same.gd {H H' : Hp} (h : Same H H') : Gd H H' := ⟨fun b o _ e => h b o e, fun b o n e => ⟨o, n, h b o e⟩⟩
theorem fresh_gd {H H' : Hp} {p : Addr} (e : Gd H H') (h : H' p = none) : H p = none := by
  cases q : H p with
  | none => rfl
  | some o =>
    exfalso
    by_cases n : isPool o
    · obtain ⟨o', _, h'⟩ := e.2 p o n q
      rw [h] at h'
      cases h'
    · have := e.1 p o n q
      rw [h] at this
      cases this
theorem np_ints (ns : List Int) : ¬ isPool (.lst (ns.map V.int)) := by
  rintro ⟨a, c, i, b, s, h⟩
  cases ns with
  | nil => cases h
  | cons x r => injection h with h; injection h with h _; cases h
theorem np_frz (o : Obj) (u : HO) : ¬ isPool (.frz o u) := by rintro ⟨a, c, i, b, s, h⟩; cases h
theorem np_tup (xs : List V) : ¬ isPool (.tup xs) := by rintro ⟨a, c, i, b, s, h⟩; cases h
theorem np_ins (C dx : Addr) (fs : List (Str × V)) : ¬ isPool (.ins C dx fs) := by rintro ⟨a, c, i, b, s, h⟩; cases h
theorem Gd.seq {K : PySem.W.Frag} {H H' : Hp} {a : Addr} {ns : List Int} (e : Gd H H') (h : SqL K H a (ns.map V.int)) : SqL K H' a (ns.map V.int) := by
  rcases h with (h | ⟨o, h⟩) | h
  · exact .inl (.inl (e.1 _ _ (np_ints ns) h))
  · exact .inl (.inr ⟨o, e.1 _ _ (np_frz _ _) h⟩)
  · exact .inr h
theorem Same.seqT {K : PySem.W.Frag} {H H' : Hp} {a : Addr} {xs : List V} (e : Same H H') (h : SqT K H a xs) : SqT K H' a xs := by
  rcases h with (h | ⟨o, h⟩) | h
  · exact .inl (.inl (e _ _ h))
  · exact .inl (.inr ⟨o, e _ _ h⟩)
  · exact .inr h
theorem same_upd {H : Hp} {p : Addr} {o : HO} (h : H p = none) : Same H (upd H p o) := fun b x e => by
  rw [upd_ne (ne_of_none e h)]
  exact e
/-- a heap made from H' by changing p, which H did not know -/
theorem Same.mut {H H' : Hp} {p : Addr} {o : HO} (e : Same H H') (h : H p = none) : Same H (upd H' p o) := fun a u ha => by
  rw [upd_ne (ne_of_none ha h)]
  exact e a u ha
theorem Gd.mut {H H' : Hp} {p : Addr} {o : HO} (e : Gd H H') (h : H p = none) : Gd H (upd H' p o) := ⟨fun a u n ha => by
  rw [upd_ne (ne_of_none ha h)]
  exact e.1 a u n ha, fun a u n ha => by
  rw [upd_ne (ne_of_none ha h)]
  exact e.2 a u n ha⟩
theorem Gd.upd {H H' : Hp} {p : Addr} {o : HO} (e : Gd H H') (h : H' p = none) : Gd H (upd H' p o) := e.mut (fresh_gd e h)
/-- the script: known to the object, or of the written part -/
def ScrAt (K : PySem.W.Frag) (H : Hp) (a : Addr) (xs : List V) : Prop :=
  (∃ o, H a = some (.frz o (.lst xs))) ∨ ∃ (o : Obj) (its : Array Value) (n : Nat), K.lookup a = some o ∧ o.cls = .type "list" ∧ o.dict = none ∧ o.data = .seq its n ∧ its.size ≤ sizeLine ∧ Vals xs its.toList
theorem ScrAt.seq {K : PySem.W.Frag} {H : Hp} {a : Addr} {xs : List V} (h : ScrAt K H a xs) : SqL K H a xs := h.elim (fun ⟨o, h⟩ => .inl (.inr ⟨o, h⟩)) fun h => .inr h
theorem ScrAt.gd {K : PySem.W.Frag} {H H' : Hp} {a : Addr} {xs : List V} (e : Gd H H') (h : ScrAt K H a xs) : ScrAt K H' a xs := h.elim (fun ⟨o, h⟩ => .inl ⟨o, e.1 _ _ (np_frz _ _) h⟩) fun h => .inr h
theorem ScrAt.mut {K : PySem.W.Frag} {H : Hp} {a D : Addr} {xs ys : List V} {o : HO} (hD : H D = some (.lst ys)) (h : ScrAt K H a xs) : ScrAt K (upd H D o) a xs :=
  h.elim (fun ⟨u, h⟩ => .inl ⟨u, by rw [upd_ne (ne_of h hD (by intro z; cases z))]; exact h⟩) fun h => .inr h
theorem scr_of {K : PySem.W.Frag} {H : Hp} {a : Addr} {xs : List V} (hO : Only H) (h : SqL K H a xs) : ScrAt K H a xs := by
  rcases h with (h | ⟨o, h⟩) | h
  · rcases hO a with z | ⟨o, ys, z⟩
    · rw [h] at z; cases z
    · rw [h] at z; cases z
  · exact .inl ⟨o, h⟩
  · exact .inr h
/-- the pool at p has drawn at most c times -/
def PoolOk (K : PySem.W.Frag) (p : Addr) (c : Nat) (H : Hp) : Prop := ∃ (sa : Addr) (ns : List Int) (c' i b s : Int), ScrAt K H sa (ns.map V.int) ∧ H p = some (.lst [.ref sa, .int c', .int i, .int b, .int s]) ∧ 0 ≤ c' ∧ c' ≤ (c : Int) ∧ 0 ≤ i ∧ i ≤ (ns.length : Int) ∧ 0 ≤ b ∧ 0 ≤ s ∧ s < 2147483629
theorem PoolOk.same {K : PySem.W.Frag} {p : Addr} {c : Nat} {H H' : Hp} (h : PoolOk K p c H) (e : Same H H') : PoolOk K p c H' := by
  obtain ⟨sa, ns, c', i, b, s, h1, h2, h3⟩ := h
  exact ⟨sa, ns, c', i, b, s, h1.gd e.gd, e _ _ h2, h3⟩
theorem PoolOk.mono {K : PySem.W.Frag} {p : Addr} {c d : Nat} {H : Hp} (h : PoolOk K p c H) (e : c ≤ d) : PoolOk K p d H := by
  obtain ⟨sa, ns, c', i, b, s, h1, h2, h3, h4, h5⟩ := h
  exact ⟨sa, ns, c', i, b, s, h1, h2, h3, by omega, h5⟩
/-- the pool is known, so a new address is another one -/
theorem PoolOk.ne {K : PySem.W.Frag} {p q : Addr} {c : Nat} {H : Hp} (h : PoolOk K p c H) (e : H q = none) : p ≠ q := by
  obtain ⟨sa, ns, c', i, b, s, h1, h2, h3⟩ := h
  exact ne_of_none h2 e
theorem PoolOk.upd {K : PySem.W.Frag} {p q : Addr} {c : Nat} {H : Hp} {o : HO} (h : PoolOk K p c H) (e : H q = none) : PoolOk K p c (upd H q o) := h.same (same_upd e)
/-- a list that stands (not the pool's) is changed: the pool stays -/
theorem PoolOk.mut {K : PySem.W.Frag} {p D : Addr} {c : Nat} {H : Hp} {ys : List V} {o : HO} (h : PoolOk K p c H) (hD : H D = some (.lst ys)) (n : ¬ isPool (.lst ys)) : PoolOk K p c (L2.upd H D o) := by
  obtain ⟨sa, ns, c', i, b, s, h1, h2, h3⟩ := h
  refine ⟨sa, ns, c', i, b, s, h1.mut hD, ?_, h3⟩
  rw [upd_ne (fun e => by
    subst e
    rw [h2] at hD
    injection hD with hD
    exact n ⟨sa, c', i, b, s, hD.symm⟩)]
  exact h2
theorem tyes {σ : St} {H : Hp} {A B : Hp → Prop} (h : A H) : tYes σ H fun b H3 => if b = true then A H3 else B H3 := by
  unfold tYes
  dsimp only
  rw [if_pos rfl]
  exact h
def pl (sa : Addr) (c i b s : Int) : HO := .lst [.ref sa, .int c, .int i, .int b, .int s]
theorem pl_pool (sa : Addr) (c i b s : Int) : isPool (pl sa c i b s) := ⟨sa, c, i, b, s, rfl⟩
theorem gd_pool {H : Hp} {p sa sa' : Addr} {c i b s c' i' b' s' : Int} (h : H p = some (pl sa c i b s)) : Gd H (upd H p (pl sa' c' i' b' s')) := ⟨fun x u n e => by
  have hx : x ≠ p := fun z => by
    subst z
    rw [h] at e
    injection e with e
    exact n ⟨sa, c, i, b, s, e.symm⟩
  rw [upd_ne hx]
  exact e, fun x u n e => by
  by_cases hx : x = p
  · subst hx
    exact ⟨_, pl_pool _ _ _ _ _, upd_same⟩
  · exact ⟨u, n, by rw [upd_ne hx]; exact e⟩⟩
def LIM : Nat := 1099511627776
def spDraw (K : PySem.W.Frag) : Sp := fun vs H Q _ => ∃ (p : Addr) (c : Nat) (lim : Int), vs = [.ref p, .int lim] ∧ PoolOk K p c H ∧ c < LIM ∧ 0 < lim ∧ lim < 2 ^ 200 ∧
  ∀ H' r, Gd H H' → PoolOk K p (c + 1) H' → 0 ≤ r → r < lim → Q (.int r) H'
def spPool (K : PySem.W.Frag) : Sp := fun vs H Q _ => ∃ (x : Addr) (ns : List Int), vs = [.ref x] ∧ ScrAt K H x (ns.map V.int) ∧ ∀ p H', H p = none → Same H H' → PoolOk K p 0 H' → Q (.ref p) H'
theorem atI0 {α : Type} {x : α} {r : List α} : atI (x :: r) 0 = some x := atI_nat (j := 0) rfl
theorem atI1 {α : Type} {x y : α} {r : List α} : atI (x :: y :: r) 1 = some y := atI_nat (j := 1) rfl
theorem atI2 {α : Type} {x y z : α} {r : List α} : atI (x :: y :: z :: r) 2 = some z := atI_nat (j := 2) rfl
theorem atI3 {α : Type} {x y z u : α} {r : List α} : atI (x :: y :: z :: u :: r) 3 = some u := atI_nat (j := 3) rfl
theorem atI4 {α : Type} {x y z u v : α} {r : List α} : atI (x :: y :: z :: u :: v :: r) 4 = some v := atI_nat (j := 4) rfl
/-! ## sets of questions by their ascending lists -/
def ask48 : List Int := (List.range 48).map fun i => ((i : Nat) : Int)
def norm (l : List Int) : List Int := ask48.filter fun x => decide (x ∈ l)
theorem mem_ask {x : Int} : x ∈ ask48 ↔ 0 ≤ x ∧ x < 48 := by
  unfold ask48
  rw [List.mem_map]
  constructor
  · rintro ⟨i, h, rfl⟩
    have := List.mem_range.mp h
    omega
  · rintro ⟨h0, h1⟩
    exact ⟨x.toNat, List.mem_range.mpr (by omega), by omega⟩
theorem mem_norm {l : List Int} {x : Int} : x ∈ norm l ↔ (0 ≤ x ∧ x < 48) ∧ x ∈ l := by
  unfold norm
  rw [List.mem_filter, mem_ask, decide_eq_true_eq]
theorem ask_sorted : ask48.Pairwise (· < ·) := by
  unfold ask48
  rw [List.pairwise_map]
  exact List.Pairwise.imp (fun h => by omega) List.pairwise_lt_range
theorem norm_sorted (l : List Int) : (norm l).Pairwise (· < ·) := ask_sorted.sublist List.filter_sublist
theorem norm_len (l : List Int) : (norm l).length ≤ 48 := by
  refine Nat.le_trans (List.length_filter_le _ _) ?_
  unfold ask48
  rw [List.length_map, List.length_range]
  exact Nat.le_refl _
theorem sorted_ext : ∀ {l l' : List Int}, l.Pairwise (· < ·) → l'.Pairwise (· < ·) → (∀ x, x ∈ l ↔ x ∈ l') → l = l'
  | [], [], _, _, _ => rfl
  | [], b :: r, _, _, h => absurd ((h b).mpr List.mem_cons_self) (by simp)
  | a :: r, [], _, _, h => absurd ((h a).mp List.mem_cons_self) (by simp)
  | a :: r, b :: s, h1, h2, h => by
    obtain ⟨ha, hr⟩ := List.pairwise_cons.mp h1
    obtain ⟨hb, hs⟩ := List.pairwise_cons.mp h2
    have e : a = b := by
      rcases List.mem_cons.mp ((h a).mp List.mem_cons_self) with e | e
      · exact e
      · rcases List.mem_cons.mp ((h b).mpr List.mem_cons_self) with e2 | e2
        · exact e2.symm
        · have := hb a e
          have := ha b e2
          omega
    subst e
    have : r = s := sorted_ext hr hs fun x => by
      constructor
      · intro hx
        rcases List.mem_cons.mp ((h x).mp (List.mem_cons_of_mem _ hx)) with e | e
        · have := ha x hx
          omega
        · exact e
      · intro hx
        rcases List.mem_cons.mp ((h x).mpr (List.mem_cons_of_mem _ hx)) with e | e
        · have := hb x hx
          omega
        · exact e
    rw [this]
theorem norm_ext {l l' : List Int} (h : ∀ x, 0 ≤ x → x < 48 → (x ∈ l ↔ x ∈ l')) : norm l = norm l' :=
  sorted_ext (norm_sorted l) (norm_sorted l') fun x => by
    rw [mem_norm, mem_norm]
    constructor
    · rintro ⟨a, b⟩; exact ⟨a, (h x a.1 a.2).mp b⟩
    · rintro ⟨a, b⟩; exact ⟨a, (h x a.1 a.2).mpr b⟩
theorem norm_of_sorted {l l' : List Int} (h : l.Pairwise (· < ·)) (hm : ∀ x, x ∈ l ↔ x ∈ l') (hr : ∀ x ∈ l', 0 ≤ x ∧ x < 48) : l = norm l' :=
  sorted_ext h (norm_sorted l') fun x => by
    rw [hm, mem_norm]
    exact ⟨fun a => ⟨hr x a, a⟩, fun a => a.2⟩
theorem norm_eq_iff {l l' : List Int} : norm l = norm l' ↔ ∀ x, 0 ≤ x → x < 48 → (x ∈ l ↔ x ∈ l') := by
  constructor
  · intro e x h0 h1
    have : x ∈ norm l ↔ x ∈ norm l' := by rw [e]
    rw [mem_norm, mem_norm] at this
    exact ⟨fun a => (this.mp ⟨⟨h0, h1⟩, a⟩).2, fun a => (this.mpr ⟨⟨h0, h1⟩, a⟩).2⟩
  · exact norm_ext
theorem norm_filter (l : List Int) (p : Int → Bool) : (norm l).filter p = norm (l.filter p) := by
  refine sorted_ext ((norm_sorted l).sublist List.filter_sublist) (norm_sorted _) fun x => ?_
  rw [List.mem_filter, mem_norm, mem_norm, List.mem_filter]
  constructor
  · rintro ⟨⟨a, b⟩, c⟩; exact ⟨a, b, c⟩
  · rintro ⟨a, b, c⟩; exact ⟨⟨a, b⟩, c⟩
theorem norm_norm (l : List Int) : norm (norm l) = norm l := norm_ext fun x h0 h1 => by
  rw [mem_norm]
  exact ⟨fun a => a.2, fun a => ⟨⟨h0, h1⟩, a⟩⟩
/-! ## values -/
theorem flat_ints (ns : List Int) : (ns.map V.int).all flatV = true := by
  rw [List.all_eq_true]
  intro x hx
  obtain ⟨i, _, rfl⟩ := List.mem_map.mp hx
  rfl
theorem eqV_int (i j : Int) : eqV (.int i) (.int j) = decide (i = j) := by
  show (i == j) = _
  rw [Bool.eq_iff_iff]
  simp
theorem in_ints (x : Int) (ns : List Int) : inV (.int x) (ns.map V.int) = decide (x ∈ ns) := by
  unfold inV
  rw [Bool.eq_iff_iff, List.any_eq_true, decide_eq_true_eq]
  constructor
  · rintro ⟨y, hy, e⟩
    obtain ⟨i, hi, rfl⟩ := List.mem_map.mp hy
    rw [eqV_int, decide_eq_true_eq] at e
    exact e ▸ hi
  · intro h
    exact ⟨.int x, List.mem_map.mpr ⟨x, h, rfl⟩, by rw [eqV_int, decide_eq_true_eq]⟩
theorem dpAll_ints {K : PySem.W.Frag} {H : Hp} : ∀ ns : List Int, DpAll K H (ns.map V.int) (ns.map PyData.int)
  | [] => .nil
  | n :: r => .cons (.int n) (dpAll_ints r)
theorem canLay_ints : ∀ ns : List Int, PyData.canLayAll0 (ns.map PyData.int) = true
  | [] => by rw [List.map_nil, PyData.canLayAll0]
  | n :: r => by
    rw [List.map_cons, PyData.canLayAll0, canLay_ints r]
    rfl
theorem depth_ints : ∀ ns : List Int, PyData.depthAll (ns.map PyData.int) = 0
  | [] => by rw [List.map_nil, PyData.depthAll]
  | n :: r => by
    rw [List.map_cons, PyData.depthAll, depth_ints r]
    rfl
theorem shT (ns : List Int) : SeqAt.shaped (.tuple (ns.map PyData.int)) = true := by
  simp [SeqAt.shaped, PyData.canLay0, canLay_ints, PyData.depth, depth_ints]
theorem shL (ns : List Int) : SeqAt.shaped (.list (ns.map PyData.int)) = true := by
  simp [SeqAt.shaped, PyData.canLay0, canLay_ints, PyData.depth, depth_ints]
theorem evT (ns ms : List Int) : PyData.eqv (.tuple (ns.map PyData.int)) (.tuple (ms.map PyData.int)) = decide (ns = ms) := by
  rw [PyData.eqv, PySem.W.ked_eqvAll]
theorem evL (ns ms : List Int) : PyData.eqv (.list (ns.map PyData.int)) (.list (ms.map PyData.int)) = decide (ns = ms) := by
  rw [PyData.eqv, PySem.W.ked_eqvAll]
theorem eqD_tup {K : PySem.W.Frag} {H : Hp} {a b : Addr} {ns ms : List Int} {Q : VK} (h1 : SqT K H a (ns.map V.int)) (h2 : SqT K H b (ms.map V.int)) (q : Q (.bl (decide (ns = ms))) H) : rEqD K (.ref a) (.ref b) H Q :=
  ⟨_, _, .tup h1 (dpAll_ints ns), .tup h2 (dpAll_ints ms), shT ns, shT ms, by rw [evT]; exact q⟩
theorem neD_tup {K : PySem.W.Frag} {H : Hp} {a b : Addr} {ns ms : List Int} {Q : VK} (h1 : SqT K H a (ns.map V.int)) (h2 : SqT K H b (ms.map V.int)) (q : Q (.bl (!decide (ns = ms))) H) : rNeD K (.ref a) (.ref b) H Q :=
  ⟨_, _, .tup h1 (dpAll_ints ns), .tup h2 (dpAll_ints ms), shT ns, shT ms, by rw [evT]; exact q⟩
theorem eqD_lst {K : PySem.W.Frag} {H : Hp} {a b : Addr} {ns ms : List Int} {Q : VK} (h1 : SqL K H a (ns.map V.int)) (h2 : SqL K H b (ms.map V.int)) (q : Q (.bl (decide (ns = ms))) H) : rEqD K (.ref a) (.ref b) H Q :=
  ⟨_, _, .lst h1 (dpAll_ints ns), .lst h2 (dpAll_ints ms), shL ns, shL ms, by rw [evL]; exact q⟩
theorem neD_lst {K : PySem.W.Frag} {H : Hp} {a b : Addr} {ns ms : List Int} {Q : VK} (h1 : SqL K H a (ns.map V.int)) (h2 : SqL K H b (ms.map V.int)) (q : Q (.bl (!decide (ns = ms))) H) : rNeD K (.ref a) (.ref b) H Q :=
  ⟨_, _, .lst h1 (dpAll_ints ns), .lst h2 (dpAll_ints ms), shL ns, shL ms, by rw [evL]; exact q⟩
/-! ## pupils -/
/-- at a a pupil whose rights are the ascending list of l -/
def PupAt (C : Addr) (H : Hp) (a : Addr) (l : List Int) : Prop := ∃ dx t, H a = some (.ins C dx [("rights", .ref t)]) ∧ H t = some (.tup ((norm l).map V.int))
theorem PupAt.same {C a : Addr} {H H' : Hp} {l : List Int} (e : Same H H') (h : PupAt C H a l) : PupAt C H' a l := by
  obtain ⟨dx, t, h1, h2⟩ := h
  exact ⟨dx, t, e _ _ h1, e _ _ h2⟩
theorem PupAt.gd {C a : Addr} {H H' : Hp} {l : List Int} (e : Gd H H') (h : PupAt C H a l) : PupAt C H' a l := by
  obtain ⟨dx, t, h1, h2⟩ := h
  exact ⟨dx, t, e.1 _ _ (np_ins _ _ _) h1, e.1 _ _ (np_tup _) h2⟩
theorem PupAt.eq {C a : Addr} {H : Hp} {l l' : List Int} (h : PupAt C H a l) (e : norm l = norm l') : PupAt C H a l' := by
  obtain ⟨dx, t, h1, h2⟩ := h
  exact ⟨dx, t, h1, by rw [← e]; exact h2⟩
/-- questions: each from 0 to 47 -/
def Qn (l : List Int) : Prop := ∀ k ∈ l, 0 ≤ k ∧ k < 48
def SqA (K : PySem.W.Frag) (H : Hp) (q : Addr) (xs : List V) : Prop := SqL K H q xs ∨ SqT K H q xs
def spInit (K : PySem.W.Frag) (C : Addr) : Sp := fun vs H Q _ => ∃ (x dx q : Addr) (l : List Int), vs = [.ref x, .ref q] ∧ H x = some (.ins C dx []) ∧ SqA K H q (l.map V.int) ∧ l.length ≤ 500 ∧ Qn l ∧
  ∀ H' t, H' x = some (.ins C dx [("rights", .ref t)]) → H' t = some (.tup ((norm l).map V.int)) → (∀ b o, b ≠ x → H b = some o → H' b = some o) → Q .non H'
theorem SqA.same {K : PySem.W.Frag} {H H' : Hp} {q : Addr} {xs : List V} (e : Same H H') (h : SqA K H q xs) : SqA K H' q xs := h.elim (fun h => .inl (e.seq h)) fun h => .inr (e.seqT h)
theorem pup_make {K : PySem.W.Frag} {C q : Addr} {H : Hp} {l : List Int} {R : Addr → Hp → Prop} {E : XK} (hq : SqA K H q (l.map V.int)) (hl : l.length ≤ 500) (hn : Qn l) (k : ∀ x H', H x = none → Same H H' → PupAt C H' x l → R x H') :
    ∀ x dx, H x = none → H dx = none → dx ≠ x → spInit K C (.ref x :: ([.ref q] ++ [])) (upd (upd H dx (.own x)) x (.ins C dx [])) (fun v H2 => v = .non ∧ R x H2) E := by
  intro x dx nx ndx ne
  have s0 : Same H (upd (upd H dx (.own x)) x (.ins C dx [])) := (same_upd ndx).mut nx
  refine ⟨x, dx, q, l, rfl, upd_same, hq.same s0, hl, hn, fun H' t h1 h2 h3 => ⟨rfl, k x H' nx (fun b o e => ?_) ⟨dx, t, h1, h2⟩⟩⟩
  exact h3 b o (ne_of_none e nx) (s0 b o e)
def spBin (C : Addr) (f : List Int → List Int → List Int) : Sp := fun vs H Q _ => ∃ (a b : Addr) (p q : List Int), vs = [.ref a, .ref b] ∧ PupAt C H a p ∧ PupAt C H b q ∧ ∀ x H', H x = none → Same H H' → PupAt C H' x (f p q) → Q (.ref x) H'
def spRel (C : Addr) (f : List Int → List Int → Bool) : Sp := fun vs H Q _ => ∃ (a b : Addr) (p q : List Int), vs = [.ref a, .ref b] ∧ PupAt C H a p ∧ PupAt C H b q ∧ ∀ H', Same H H' → Q (.bl (f (norm p) (norm q))) H'
def fOr (p q : List Int) : List Int := p ++ q
def fAnd (p q : List Int) : List Int := p.filter fun x => decide (x ∈ q)
def fSub (p q : List Int) : List Int := p.filter fun x => !decide (x ∈ q)
def fLe (p q : List Int) : Bool := p.all fun x => decide (x ∈ q)
def fEq (p q : List Int) : Bool := decide (p = q)
theorem norm_or (p q : List Int) : norm (norm p ++ norm q) = norm (p ++ q) := norm_ext fun x h0 h1 => by
  simp only [List.mem_append, mem_norm]
  exact ⟨fun h => h.elim (fun a => .inl a.2) fun a => .inr a.2, fun h => h.elim (fun a => .inl ⟨⟨h0, h1⟩, a⟩) fun a => .inr ⟨⟨h0, h1⟩, a⟩⟩
theorem qn_norm (l : List Int) : Qn (norm l) := fun k hk => (mem_norm.mp hk).1
theorem qn_append {l m : List Int} (h1 : Qn l) (h2 : Qn m) : Qn (l ++ m) := fun k hk => (List.mem_append.mp hk).elim (h1 k) (h2 k)
theorem qn_filter {l : List Int} {p : Int → Bool} (h1 : Qn l) : Qn (l.filter p) := fun k hk => h1 k (List.mem_filter.mp hk).1
/-- a comprehension over a list that keeps some of its ints as they are -/
theorem filter_take_succ {l : List Int} {p : Int → Bool} {i : Nat} {x : Int} (h : l[i]? = some x) : (l.take (i + 1)).filter p = (l.take i).filter p ++ (if p x = true then [x] else []) := by
  rw [List.take_add_one, h, List.filter_append]
  show _ ++ List.filter p [x] = _
  rw [List.filter_cons]
  rfl
theorem get_map_int {l : List Int} {i : Nat} {v : V} (h : (l.map V.int)[i]? = some v) : ∃ x, l[i]? = some x ∧ v = .int x := by
  rw [List.getElem?_map] at h
  cases e : l[i]? with
  | none => rw [e] at h; cases h
  | some x => rw [e] at h; exact ⟨x, rfl, (Option.some.inj h).symm⟩
theorem catA_k {K : PySem.W.Frag} {H : Hp} {a b : Addr} {xs ys : List V} {Q : VK} (h1 : SqT K H a xs) (h2 : SqT K H b ys) (hl : xs.length + ys.length ≤ sizeLine) (k : ∀ p H', Same H H' → SqT K H' p (xs ++ ys) → Q (.ref p) H') : rCatA K (.ref a) (.ref b) H Q := by
  refine ⟨a, b, xs, ys, rfl, rfl, h1, h2, hl, fun e => ?_, fun _ e => ?_, fun _ _ p hp => k p _ (same_upd hp) (.inl (.inl upd_same))⟩
  · subst e
    exact k b H (Same.refl H) h2
  · subst e
    exact k a H (Same.refl H) (by rw [List.append_nil]; exact h1)
section
variable {K : PySem.W.Frag} {a : Addr} {tt : TT} {te : TE} {vs : List Nat} {σ : St} {H1 : Hp} {D : Addr} {Qd : Hp → Prop} {j : Nat}
/-- one turn of a comprehension that keeps some ints as they are -/
theorem filt_turn {ns : List Int} {p : Int → Bool} {i : Nat} {x : Int} {H : Hp} (nD : H1 D = none) (hlen : ns.length < 100000) (hx : ns[i]? = some x)
    (ht : ∀ H', Same H1 H' → ∀ R : Bool → Hp → Prop, R (p x) H' → tt ((wipe σ vs).set j (some (.int x))) H' R) (he : ∀ H', Same H1 H' → ∀ R : VK, R (.int x) H' → te ((wipe σ vs).set j (some (.int x))) H' R)
    (h : Same H1 H ∧ H D = some (.lst (((ns.take i).filter p).map V.int))) :
    tt ((wipe σ vs).set j (some (.int x))) H fun b H3 => if b = true then te ((wipe σ vs).set j (some (.int x))) H3 fun y H4 => ∃ acc, H4 D = some (.lst acc) ∧ acc.length < sizeLine ∧ (Same H1 (upd H4 D (.lst (acc ++ [y]))) ∧ upd H4 D (.lst (acc ++ [y])) D = some (.lst (((ns.take (i + 1)).filter p).map V.int)))
      else (Same H1 H3 ∧ H3 D = some (.lst (((ns.take (i + 1)).filter p).map V.int))) := by
  obtain ⟨e, hD⟩ := h
  refine ht H e _ ?_
  have ef := filter_take_succ (p := p) hx
  cases hp : p x with
  | true =>
    rw [hp] at ef
    refine iteT (he H e _ ⟨_, hD, ?_, e.mut nD, ?_⟩)
    · rw [List.length_map]
      have h1 := List.length_filter_le p (ns.take i)
      have h2 := List.length_take_le i ns
      have h3 : (ns.take i).length ≤ ns.length := by rw [List.length_take]; exact Nat.min_le_right _ _
      rw [sizeLine_eq]; omega
    · rw [upd_same, ef, List.map_append]
      rfl
  | false =>
    rw [hp] at ef
    refine iteF ⟨e, ?_⟩
    rw [ef, if_neg (by decide), List.append_nil]
    exact hD
def lcT_filter {ns : List Int} (p : Int → Bool) (hs : SqT K H1 a (ns.map V.int)) (nD : H1 D = none) (hlen : ns.length < 100000) (hw : ∀ x, wipe ((wipe σ vs).set j (some x)) vs = wipe σ vs)
    (ht : ∀ x ∈ ns, ∀ H', Same H1 H' → ∀ R : Bool → Hp → Prop, R (p x) H' → tt ((wipe σ vs).set j (some (.int x))) H' R) (he : ∀ x ∈ ns, ∀ H', Same H1 H' → ∀ R : VK, R (.int x) H' → te ((wipe σ vs).set j (some (.int x))) H' R)
    (k : ∀ H', Same H1 H' → H' D = some (.lst ((ns.filter p).map V.int)) → Qd H') := 
  lc_tup (K := K) (a := a) (xs := ns.map V.int) (g := gName j) (tt := tt) (te := te) (vs := vs) (σ := σ) (H1 := H1) (D := D) (Qd := Qd) (fun i H => Same H1 H ∧ H D = some (.lst (((ns.take i).filter p).map V.int))) ⟨same_upd nD, upd_same⟩ (fun i H _ h => h.1.seqT hs)
    (fun i y H hi h => by
      obtain ⟨x, hx, rfl⟩ := get_map_int hi
      have hm := List.mem_of_getElem? hx
      exact ⟨hw _, filt_turn nD hlen hx (ht x hm) (he x hm) h⟩)
    (fun H h => k H h.1 (by have := h.2; rw [List.length_map, List.take_length] at this; exact this))
def lcL_filter {ns : List Int} (p : Int → Bool) (hs : SqL K H1 a (ns.map V.int)) (nD : H1 D = none) (hlen : ns.length < 100000) (hw : ∀ x, wipe ((wipe σ vs).set j (some x)) vs = wipe σ vs)
    (ht : ∀ x ∈ ns, ∀ H', Same H1 H' → ∀ R : Bool → Hp → Prop, R (p x) H' → tt ((wipe σ vs).set j (some (.int x))) H' R) (he : ∀ x ∈ ns, ∀ H', Same H1 H' → ∀ R : VK, R (.int x) H' → te ((wipe σ vs).set j (some (.int x))) H' R)
    (k : ∀ H', Same H1 H' → H' D = some (.lst ((ns.filter p).map V.int)) → Qd H') := 
  lc_list (K := K) (a := a) (xs := ns.map V.int) (g := gName j) (tt := tt) (te := te) (vs := vs) (σ := σ) (H1 := H1) (D := D) (Qd := Qd) (fun i H => Same H1 H ∧ H D = some (.lst (((ns.take i).filter p).map V.int))) ⟨same_upd nD, upd_same⟩ (fun i H _ h => h.1.seq hs)
    (fun i y H hi h => by
      obtain ⟨x, hx, rfl⟩ := get_map_int hi
      have hm := List.mem_of_getElem? hx
      exact ⟨hw _, filt_turn nD hlen hx (ht x hm) (he x hm) h⟩)
    (fun H h => k H h.1 (by have := h.2; rw [List.length_map, List.take_length] at this; exact this))
def rgI (n : Nat) : List Int := (List.range n).map fun i => ((i : Nat) : Int)
theorem rgI_get {n i : Nat} (h : i < n) : (rgI n)[i]? = some (i : Int) := by
  unfold rgI
  rw [List.getElem?_map, List.getElem?_range h]
  rfl
theorem rgI_length (n : Nat) : (rgI n).length = n := by unfold rgI; rw [List.length_map, List.length_range]
theorem mem_rgI {n : Nat} {x : Int} : x ∈ rgI n ↔ 0 ≤ x ∧ x < n := by
  unfold rgI
  rw [List.mem_map]
  constructor
  · rintro ⟨i, h, rfl⟩
    have := List.mem_range.mp h
    omega
  · rintro ⟨h0, h1⟩
    exact ⟨x.toNat, List.mem_range.mpr (by omega), by omega⟩
def lcR_filter {n : Nat} (p : Int → Bool) (nD : H1 D = none) (hlen : n < 100000) (hw : ∀ x, wipe ((wipe σ vs).set j (some x)) vs = wipe σ vs)
    (ht : ∀ x ∈ rgI n, ∀ H', Same H1 H' → ∀ R : Bool → Hp → Prop, R (p x) H' → tt ((wipe σ vs).set j (some (.int x))) H' R) (he : ∀ x ∈ rgI n, ∀ H', Same H1 H' → ∀ R : VK, R (.int x) H' → te ((wipe σ vs).set j (some (.int x))) H' R)
    (k : ∀ H', Same H1 H' → H' D = some (.lst (((rgI n).filter p).map V.int)) → Qd H') := 
  lc_range (lo := 0) (n := n) (g := gName j) (tt := tt) (te := te) (vs := vs) (σ := σ) (H1 := H1) (D := D) (Qd := Qd) (fun i H => Same H1 H ∧ H D = some (.lst ((((rgI n).take i).filter p).map V.int))) ⟨same_upd nD, upd_same⟩
    (fun i H hi h => by
      have hx := rgI_get hi
      have hm := List.mem_of_getElem? hx
      have e0 : (0 : Int) + ((i : Nat) : Int) = (i : Int) := Int.zero_add _
      rw [e0]
      exact ⟨hw _, filt_turn nD (by rw [rgI_length]; exact hlen) hx (ht _ hm) (he _ hm) h⟩)
    (fun H h => k H h.1 (by have := h.2; rw [List.take_of_length_le (by rw [rgI_length]; exact Nat.le_refl n)] at this; exact this))
theorem in_k {K : PySem.W.Frag} {neg : Bool} {x : Int} {q : Addr} {ns : List Int} {H : Hp} {Q : VK} (h : SqL K H q (ns.map V.int) ∨ SqT K H q (ns.map V.int)) (k : Q (.bl (if neg then !decide (x ∈ ns) else decide (x ∈ ns))) H) : rIn K neg (.int x) (.ref q) H Q :=
  ⟨q, _, rfl, h, rfl, flat_ints ns, by rw [in_ints]; exact k⟩
theorem tup_of {K : PySem.W.Frag} {H : Hp} {q : Addr} {xs : List V} (h : H q = some (.tup xs)) : SqT K H q xs := .inl (.inl h)
theorem lst_of {K : PySem.W.Frag} {H : Hp} {q : Addr} {xs : List V} (h : H q = some (.lst xs)) : SqL K H q xs := .inl (.inl h)
end
def Draws (K : PySem.W.Frag) (p : Addr) (c : Nat) (H H' : Hp) : Prop := Gd H H' ∧ PoolOk K p c H'
/-- _law_some: a new list of fewer than m questions -/
def spSome (K : PySem.W.Frag) : Sp := fun vs H Q _ => ∃ (p : Addr) (c : Nat) (m : Int), vs = [.ref p, .int m] ∧ PoolOk K p c H ∧ c + 200 < LIM ∧ 0 < m ∧ m ≤ 100 ∧
  ∀ H' D l, H D = none → Gd H H' → PoolOk K p (c + 200) H' → H' D = some (.lst (l.map V.int)) → Qn l → (l.length : Int) < m → Q (.ref D) H'
/-- _law_set: the ascending list -/
def spSet (K : PySem.W.Frag) : Sp := fun vs H Q _ => ∃ (q : Addr) (l : List Int), vs = [.ref q] ∧ SqL K H q (l.map V.int) ∧
  ∀ H' D, H D = none → Same H H' → H' D = some (.lst ((norm l).map V.int)) → Q (.ref D) H'
theorem ask_rg : ask48 = rgI 48 := rfl
theorem norm_rg (l : List Int) : (rgI 48).filter (fun x => decide (x ∈ l)) = norm l := rfl
theorem own_bin {C x y : Addr} {f : List Int → List Int → List Int} {l m : List Int} {H : Hp} {Q : VK} {E : XK} (px : PupAt C H x l) (py : PupAt C H y m) (k : ∀ z H', H z = none → Same H H' → PupAt C H' z (f l m) → Q (.ref z) H') :
    rOwn C (spBin C f) E (.ref x) (.ref y) H Q := by
  obtain ⟨dx, t, hx, _⟩ := id px
  obtain ⟨dy, u, hy, _⟩ := id py
  exact ⟨x, y, dx, dy, _, _, rfl, rfl, hx, hy, x, y, l, m, rfl, px, py, k⟩
theorem own_rel {C x y : Addr} {f : List Int → List Int → Bool} {l m : List Int} {H : Hp} {Q : VK} {E : XK} (px : PupAt C H x l) (py : PupAt C H y m) (k : ∀ H', Same H H' → Q (.bl (f (norm l) (norm m))) H') :
    rOwn C (spRel C f) E (.ref x) (.ref y) H Q := by
  obtain ⟨dx, t, hx, _⟩ := id px
  obtain ⟨dy, u, hy, _⟩ := id py
  exact ⟨x, y, dx, dy, _, _, rfl, rfl, hx, hy, x, y, l, m, rfl, px, py, k⟩
theorem fld_rights {K : PySem.W.Frag} {C x : Addr} {l : List Int} {H : Hp} {Q : VK} (px : PupAt C H x l) (c : Cls K C) (n : NoAttr K C "rights") (k : ∀ t, H t = some (.tup ((norm l).map V.int)) → Q (.ref t) H) :
    ∃ a C dx fs v, V.ref x = .ref a ∧ H a = some (.ins C dx fs) ∧ Cls K C ∧ NoAttr K C "rights" ∧ fs.lookup ("rights" : Str) = some v ∧ Q v H := by
  obtain ⟨dx, t, hx, ht⟩ := px
  exact ⟨x, C, dx, _, .ref t, rfl, hx, c, n, rfl, k t ht⟩
/-! the pure facts -/
theorem le_within {l m : List Int} (h1 : Qn l) : fLe (norm l) (norm m) = decide (l.filter (fun x => !decide (x ∈ m)) = []) := by
  rw [Bool.eq_iff_iff]
  unfold fLe
  rw [List.all_eq_true, decide_eq_true_eq, List.filter_eq_nil_iff]
  constructor
  · intro h x hx
    have := h x (mem_norm.mpr ⟨h1 x hx, hx⟩)
    rw [decide_eq_true_eq, mem_norm] at this
    simp [this.2]
  · intro h x hx
    obtain ⟨a, b⟩ := mem_norm.mp hx
    have := h x b
    rw [decide_eq_true_eq, mem_norm]
    exact ⟨a, by simpa using this⟩
theorem or_within {l m : List Int} (h1 : Qn l) : fEq (norm (fOr l m)) (norm m) = decide (l.filter (fun x => !decide (x ∈ m)) = []) := by
  rw [Bool.eq_iff_iff]
  unfold fEq fOr
  rw [decide_eq_true_eq, decide_eq_true_eq, List.filter_eq_nil_iff, norm_eq_iff]
  constructor
  · intro h x hx
    have := (h x (h1 x hx).1 (h1 x hx).2).mp (List.mem_append.mpr (.inl hx))
    simp [this]
  · intro h x h0 h1
    rw [List.mem_append]
    exact ⟨fun a => a.elim (fun b => by simpa using h x b) id, .inr⟩
theorem and_within {l m : List Int} (h1 : Qn l) : fEq (norm (fAnd l m)) (norm l) = decide (l.filter (fun x => !decide (x ∈ m)) = []) := by
  rw [Bool.eq_iff_iff]
  unfold fEq fAnd
  rw [decide_eq_true_eq, decide_eq_true_eq, List.filter_eq_nil_iff, norm_eq_iff]
  constructor
  · intro h x hx
    have := (h x (h1 x hx).1 (h1 x hx).2).mpr hx
    rw [List.mem_filter] at this
    simp [of_decide_eq_true this.2]
  · intro h x h0 h1
    rw [List.mem_filter]
    exact ⟨fun a => a.1, fun a => ⟨a, by simpa using h x a⟩⟩
theorem le_or (l m : List Int) : fLe (norm l) (norm (fOr l m)) = true := by
  unfold fLe fOr
  rw [List.all_eq_true]
  intro x hx
  obtain ⟨a, b⟩ := mem_norm.mp hx
  exact decide_eq_true (mem_norm.mpr ⟨a, List.mem_append.mpr (.inl b)⟩)
theorem le_and (l m : List Int) : fLe (norm (fAnd l m)) (norm m) = true := by
  unfold fLe fAnd
  rw [List.all_eq_true]
  intro x hx
  obtain ⟨a, b⟩ := mem_norm.mp hx
  exact decide_eq_true (mem_norm.mpr ⟨a, of_decide_eq_true (List.mem_filter.mp b).2⟩)
theorem sub_and (l m : List Int) : norm (fAnd (fSub l m) m) = [] := by
  unfold norm fAnd fSub
  rw [List.filter_eq_nil_iff]
  intro x _ h
  have h := of_decide_eq_true h
  rw [List.mem_filter, List.mem_filter] at h
  obtain ⟨⟨_, h2⟩, h3⟩ := h
  have := of_decide_eq_true h3
  simp [this] at h2
theorem sub_or_and (l m : List Int) : norm (fOr (fSub l m) (fAnd l m)) = norm l := norm_ext fun x h0 h1 => by
  unfold fOr fSub fAnd
  rw [List.mem_append, List.mem_filter, List.mem_filter]
  by_cases h : x ∈ m <;> simp [h]
theorem and_set (l m : List Int) : norm (fAnd l m) = (norm l).filter fun x => decide (x ∈ m) := by
  unfold fAnd
  rw [norm_filter]
theorem sub_set (l m : List Int) : norm (fSub l m) = (norm l).filter fun x => !decide (x ∈ m) := by
  unfold fSub
  rw [norm_filter]
theorem ne_false {l m : List Int} (e : l = m) : (!decide (l = m)) = false := by simp [e]
def spPair (K : PySem.W.Frag) : Sp := fun vs H Q _ => ∃ (o t : Addr) (l m : List Int), vs = [.ref o, .ref t] ∧ H o = some (.lst (l.map V.int)) ∧ H t = some (.lst (m.map V.int)) ∧ Qn l ∧ Qn m ∧ l.length ≤ 200 ∧ m.length ≤ 200 ∧ ∀ H', Same H H' → Q (.bl true) H'
theorem kit_bool {K : PySem.W.Frag} : PySem.W.kitOne K (.type "bool") (.type "bool") = some true := kit_ty (by decide +kernel)
theorem dec_self (b : Bool) : (!decide (V.bl b = V.bl b)) = false := by simp
theorem rg_ints (n : Nat) : rgV 0 (n : Int) = (rgI n).map V.int := by
  unfold rgV rgI
  rw [List.map_map, Int.sub_zero, Int.toNat_natCast]
  refine List.map_congr_left fun i _ => ?_
  show V.int (0 + (i : Int)) = V.int (i : Int)
  rw [Int.zero_add]
/-- a list of questions at r -/
def QsAt (H : Hp) (r : Addr) (l : List Int) : Prop := H r = some (.lst (l.map V.int)) ∧ Qn l ∧ l.length ≤ 200
theorem QsAt.gd {H H' : Hp} {r : Addr} {l : List Int} (e : Gd H H') (h : QsAt H r l) : QsAt H' r l := ⟨e.1 _ _ (np_ints l) h.1, h.2⟩
theorem QsAt.same {H H' : Hp} {r : Addr} {l : List Int} (e : Same H H') (h : QsAt H r l) : QsAt H' r l := h.gd e.gd
theorem two_at {x y : V} {r : Int} (h0 : 0 ≤ r) (h1 : r < 2) : atI [x, y] r = some (if r = 0 then x else y) := by
  rcases (show r = 0 ∨ r = 1 by omega) with e | e
  · subst e; exact atI0
  · subst e; exact atI1
/-! ## a pupil beside the ascending list of its questions -/
theorem np_refs (xs : List Addr) : ¬ isPool (.lst (xs.map V.ref)) := by
  rintro ⟨a, c, i, b, s, h⟩
  cases xs with
  | nil => cases h
  | cons x r =>
    injection h with h
    injection h with _ h
    cases r with
    | nil => cases h
    | cons y r => injection h with h _; cases h
def Pr (C : Addr) (H : Hp) (x y : Addr) : Prop := ∃ l, PupAt C H x l ∧ H y = some (.lst ((norm l).map V.int))
theorem Pr.same {C x y : Addr} {H H' : Hp} (e : Same H H') (h : Pr C H x y) : Pr C H' x y := let ⟨l, a, b⟩ := h; ⟨l, a.same e, e _ _ b⟩
theorem Pr.gd {C x y : Addr} {H H' : Hp} (e : Gd H H') (h : Pr C H x y) : Pr C H' x y := let ⟨l, a, b⟩ := h; ⟨l, a.gd e, e.1 _ _ (np_ints _) b⟩
theorem PupAt.mut {C x q : Addr} {H : Hp} {l : List Int} {zs : List V} {o : HO} (hq : H q = some (.lst zs)) (h : PupAt C H x l) : PupAt C (upd H q o) x l := by
  obtain ⟨dx, t, h1, h2⟩ := h
  exact ⟨dx, t, by rw [upd_ne (ne_of h1 hq (by intro z; cases z))]; exact h1, by rw [upd_ne (ne_of h2 hq (by intro z; cases z))]; exact h2⟩
theorem Pr.mut {C x y q : Addr} {H : Hp} {zs : List V} {o : HO} (hq : H q = some (.lst zs)) (ne : y ≠ q) (h : Pr C H x y) : Pr C (upd H q o) x y := let ⟨l, a, b⟩ := h; ⟨l, a.mut hq, by rw [upd_ne ne]; exact b⟩
theorem Pr.ne {C x y q z : Addr} {H : Hp} {zs : List V} (h : Pr C H x y) (hq : H q = some (.lst (.ref z :: zs))) : y ≠ q := by
  obtain ⟨l, a, b⟩ := h
  refine ne_of b hq fun e => ?_
  injection e with e
  cases hn : norm l with
  | nil => rw [hn] at e; cases e
  | cons u r => rw [hn] at e; injection e with e _; cases e
def Tri (C : Addr) (H : Hp) (PL SL : Addr) (xs ys : List Addr) : Prop := H PL = some (.lst (xs.map V.ref)) ∧ H SL = some (.lst (ys.map V.ref)) ∧ xs.length = 3 ∧ ys.length = 3 ∧ ∀ (k : Nat) x y, xs[k]? = some x → ys[k]? = some y → Pr C H x y
theorem Tri.gd {C PL SL : Addr} {H H' : Hp} {xs ys : List Addr} (e : Gd H H') (h : Tri C H PL SL xs ys) : Tri C H' PL SL xs ys :=
  ⟨e.1 _ _ (np_refs _) h.1, e.1 _ _ (np_refs _) h.2.1, h.2.2.1, h.2.2.2.1, fun k x y a b => (h.2.2.2.2 k x y a b).gd e⟩
theorem at_ref {xs : List Addr} {r : Int} (h0 : 0 ≤ r) (h1 : r < (xs.length : Int)) : ∃ (j : Nat) (x : Addr), xs[j]? = some x ∧ r = (j : Int) ∧ j < xs.length ∧ atI (xs.map V.ref) r = some (.ref x) := by
  obtain ⟨j, rfl⟩ : ∃ j : Nat, r = (j : Int) := ⟨r.toNat, by omega⟩
  have hj : j < xs.length := by omega
  refine ⟨j, xs[j], List.getElem?_eq_getElem hj, rfl, hj, atI_nat ?_⟩
  rw [List.getElem?_map, List.getElem?_eq_getElem hj]
  rfl
theorem get3 {xs : List Addr} {j : Nat} (h : xs.length = 3) (hj : j < 3) : ∃ x, xs[j]? = some x := ⟨xs[j]'(by omega), List.getElem?_eq_getElem _⟩
def spHas (C : Addr) : Sp := fun vs H Q _ => ∃ (a : Addr) (p : List Int) (z : Int), vs = [.ref a, .int z] ∧ PupAt C H a p ∧ Q (.bl (decide (z ∈ norm p))) H
def spLen (C : Addr) : Sp := fun vs H Q _ => ∃ (a : Addr) (p : List Int), vs = [.ref a] ∧ PupAt C H a p ∧ Q (.int ((norm p).length : Nat)) H
def spAdded (C : Addr) : Sp := fun vs H Q _ => ∃ (a : Addr) (p : List Int) (z : Int), vs = [.ref a, .int z] ∧ PupAt C H a p ∧ 0 ≤ z ∧ z < 48 ∧ ∀ x H', H x = none → Same H H' → PupAt C H' x (p ++ [z]) → Q (.ref x) H'
def spAfter (K : PySem.W.Frag) (C : Addr) : Sp := fun vs H Q _ => ∃ (p PL SL : Addr) (c : Nat) (xs ys : List Addr), vs = [.ref p, .ref PL, .ref SL] ∧ PoolOk K p c H ∧ c + 100 < LIM ∧ Tri C H PL SL xs ys ∧
  ∀ H' t x y, Gd H H' → PoolOk K p (c + 100) H' → H' t = some (.tup [.ref x, .ref y]) → H y = none → Pr C H' x y → Q (.ref t) H'
def spRight (C : Addr) : Sp := fun vs H Q _ => ∃ (PL SL : Addr) (xs ys : List Addr), vs = [.ref PL, .ref SL] ∧ Tri C H PL SL xs ys ∧ ∀ H', Same H H' → Q (.bl true) H'
theorem own_has {C x : Addr} {neg : Bool} {z : Int} {p : List Int} {H : Hp} {Q : VK} {E : XK} (px : PupAt C H x p) (k : Q (.bl (if neg then !decide (z ∈ norm p) else decide (z ∈ norm p))) H) : rOwnIn C (spHas C) E neg (.int z) (.ref x) H Q := by
  obtain ⟨dx, t, hx, _⟩ := id px
  exact ⟨x, dx, _, rfl, hx, x, p, z, rfl, px, _, rfl, k⟩
theorem own_len {C x : Addr} {p : List Int} {H : Hp} {Q : VK} {E : XK} (px : PupAt C H x p) (k : Q (.int ((norm p).length : Nat)) H) : rOwnLen C (spLen C) E [.ref x] H Q := by
  obtain ⟨dx, t, hx, _⟩ := id px
  have := norm_len p
  exact ⟨x, dx, _, rfl, hx, x, p, rfl, px, _, rfl, by omega, by omega, k⟩
theorem le_listW (l m : List Int) : fLe (norm l) (norm m) = decide ((norm l).filter (fun x => !decide (x ∈ norm m)) = []) := by
  have := le_within (m := norm m) (qn_norm l)
  rw [norm_norm, norm_norm] at this
  exact this
theorem dpAll_bls {K : PySem.W.Frag} {H : Hp} : ∀ bs : List Bool, DpAll K H (bs.map V.bl) (bs.map PyData.bool)
  | [] => .nil
  | n :: r => .cons (.bl n) (dpAll_bls r)
theorem canLay_bls : ∀ ns : List Bool, PyData.canLayAll0 (ns.map PyData.bool) = true
  | [] => by rw [List.map_nil, PyData.canLayAll0]
  | n :: r => by
    rw [List.map_cons, PyData.canLayAll0, canLay_bls r]
    rfl
theorem depth_bls : ∀ ns : List Bool, PyData.depthAll (ns.map PyData.bool) = 0
  | [] => by rw [List.map_nil, PyData.depthAll]
  | n :: r => by
    rw [List.map_cons, PyData.depthAll, depth_bls r]
    rfl
theorem shB (ns : List Bool) : SeqAt.shaped (.list (ns.map PyData.bool)) = true := by
  simp [SeqAt.shaped, PyData.canLay0, canLay_bls, PyData.depth, depth_bls]
theorem evAll_bls : ∀ ns : List Bool, PyData.eqvAll (ns.map PyData.bool) (ns.map PyData.bool) = true
  | [] => by rw [List.map_nil, PyData.eqvAll]
  | n :: r => by
    rw [List.map_cons, PyData.eqvAll, evAll_bls r]
    cases n <;> simp [PyData.eqv]
theorem neD_bls {K : PySem.W.Frag} {H : Hp} {a b : Addr} {ns : List Bool} {Q : VK} (h1 : SqL K H a (ns.map V.bl)) (h2 : SqL K H b (ns.map V.bl)) (q : Q (.bl false) H) : rNeD K (.ref a) (.ref b) H Q :=
  ⟨_, _, .lst h1 (dpAll_bls ns), .lst h2 (dpAll_bls ns), shB ns, shB ns, by rw [PyData.eqv, evAll_bls]; exact q⟩
theorem take_get {α : Type} {l : List α} {i : Nat} {x : α} (h : l[i]? = some x) : l.take (i + 1) = l.take i ++ [x] := by
  rw [List.take_add_one, h]
  rfl
end L2

namespace L2
open PySem PySem.Spec PyProof.Rows
/-! ## x in t, t a tuple of data -/
def rInDT (K : PySem.W.Frag) : R2 := fun x y H Q => ∃ d ds, Dp K H x d ∧ Dp K H y (.tuple ds) ∧ SeqAt.shaped d = true ∧ SeqAt.shaped (.tuple ds) = true ∧ Q (.bl (ds.any fun z => PyData.eqv z d)) H
def rNotInDT (K : PySem.W.Frag) : R2 := fun x y H Q => ∃ d ds, Dp K H x d ∧ Dp K H y (.tuple ds) ∧ SeqAt.shaped d = true ∧ SeqAt.shaped (.tuple ds) = true ∧ Q (.bl (!ds.any fun z => PyData.eqv z d)) H
theorem Room.units65 {k : Nat} {A : Around} (h : Room k A) : A.units + 65 < cLine := by
  have := h.un
  omega
theorem op_inDT {X : Cx} (hu : X.A.units + 65 < cLine) : OpR X (compareOp .In) (rInDT X.K) := by
  intro pins s σ H x y v u Q I rx ry h
  obtain ⟨d, ds, hd, he, sd, se, q⟩ := h
  obtain ⟨as, r1⟩ := Dp.reads I d x v hd rx
  obtain ⟨bs, r2⟩ := Dp.reads I (.tuple ds) y u he ry
  exact SeqAt.in_tuple_reads r2 r1 (SeqAt.canLay_of_shaped se) (SeqAt.canLay_of_shaped sd) (room_in_shaped sd hu) ⟨.bl _, H, I, rfl, q⟩
theorem op_notInDT {X : Cx} (hu : X.A.units + 65 < cLine) : OpR X (compareOp .NotIn) (rNotInDT X.K) := by
  intro pins s σ H x y v u Q I rx ry h
  obtain ⟨d, ds, hd, he, sd, se, q⟩ := h
  obtain ⟨as, r1⟩ := Dp.reads I d x v hd rx
  obtain ⟨bs, r2⟩ := Dp.reads I (.tuple ds) y u he ry
  exact SeqAt.notIn_tuple_reads r2 r1 (SeqAt.canLay_of_shaped se) (SeqAt.canLay_of_shaped sd) (room_in_shaped sd hu) ⟨.bl _, H, I, rfl, q⟩
theorem ixN_nat {n j : Nat} (h : j < n) : ixN n (j : Int) = some j := by
  unfold ixN
  simp
  omega
/-! ## the drawing of the later stages: a list of the cells and a place -/
def Stt (p c : Addr) (H : Hp) : Prop := p ≠ c ∧ ∃ (ns : List Int) (i : Int), H p = some (.lst [.ref c, .int i]) ∧ H c = some (.lst (ns.map V.int))
def Fr (p c : Addr) (H H' : Hp) : Prop := (∀ b o, (∀ xs, o ≠ .lst xs) → H b = some o → H' b = some o) ∧ ∀ b xs, b ≠ p → b ≠ c → H b = some (.lst xs) → H' b = some (.lst xs)
theorem Fr.refl (p c : Addr) (H : Hp) : Fr p c H H := ⟨fun _ _ _ h => h, fun _ _ _ _ h => h⟩
theorem Fr.trans {p c : Addr} {H H1 H2 : Hp} (a : Fr p c H H1) (b : Fr p c H1 H2) : Fr p c H H2 := ⟨fun x o n h => b.1 x o n (a.1 x o n h), fun x xs n1 n2 h => b.2 x xs n1 n2 (a.2 x xs n1 n2 h)⟩
theorem Same.fr {p c : Addr} {H H' : Hp} (e : Same H H') : Fr p c H H' := ⟨fun x o _ h => e x o h, fun x xs _ _ h => e x _ h⟩
theorem Fr.tup {p c : Addr} {H H' : Hp} {x : Addr} {xs : List V} (e : Fr p c H H') (h : H x = some (.tup xs)) : H' x = some (.tup xs) := e.1 _ _ (fun _ z => by cases z) h
theorem Fr.ins {p c : Addr} {H H' : Hp} {x C dx : Addr} {xs : List (Str × V)} (e : Fr p c H H') (h : H x = some (.ins C dx xs)) : H' x = some (.ins C dx xs) := e.1 _ _ (fun _ z => by cases z) h
theorem Stt.same {p c : Addr} {H H' : Hp} (h : Stt p c H) (e : Same H H') : Stt p c H' := let ⟨n, ns, i, a, b⟩ := h; ⟨n, ns, i, e _ _ a, e _ _ b⟩
theorem Stt.upd {p c q : Addr} {H : Hp} {o : HO} (h : Stt p c H) (e : H q = none) : Stt p c (upd H q o) := h.same (same_upd e)
theorem Stt.mut {p c q : Addr} {H : Hp} {o : HO} (h : Stt p c H) (n1 : q ≠ p) (n2 : q ≠ c) : Stt p c (L2.upd H q o) := let ⟨n, ns, i, a, b⟩ := h; ⟨n, ns, i, by rw [upd_ne n1.symm]; exact a, by rw [upd_ne n2.symm]; exact b⟩
theorem Stt.ne {p c q : Addr} {H : Hp} (h : Stt p c H) (e : H q = none) : q ≠ p ∧ q ≠ c := let ⟨n, ns, i, a, b⟩ := h; ⟨(ne_of_none a e).symm, (ne_of_none b e).symm⟩
theorem Fr.free {p c q : Addr} {H H' : Hp} (e : Fr p c H H') (s : Stt p c H') (h : H' q = none) : H q = none := by
  cases hq : H q with
  | none => rfl
  | some o =>
    exfalso
    by_cases hl : ∃ xs, o = .lst xs
    · obtain ⟨xs, rfl⟩ := hl
      obtain ⟨n1, n2⟩ := s.ne h
      have := e.2 q xs n1 n2 hq
      rw [h] at this
      cases this
    · have := e.1 q o (fun xs z => hl ⟨xs, z⟩) hq
      rw [h] at this
      cases this
theorem Fr.mut {p c q : Addr} {H H' : Hp} {o : HO} (e : Fr p c H H') (n : H q = none) : Fr p c H (L2.upd H' q o) :=
  ⟨fun b u nl h => by rw [upd_ne (ne_of_none h n)]; exact e.1 b u nl h, fun b xs n1 n2 h => by rw [upd_ne (ne_of_none h n)]; exact e.2 b xs n1 n2 h⟩
theorem Fr.upd {p c q : Addr} {H H' : Hp} {o : HO} (e : Fr p c H H') (n : H' q = none) : Fr p c H (L2.upd H' q o) := e.trans (same_upd n).fr
def spDr (K : PySem.W.Frag) : Sp := fun vs H Q _ => ∃ (p c : Addr) (lim : Int), vs = [.ref p, .int lim] ∧ Stt p c H ∧ 0 < lim ∧ lim < 2 ^ 200 ∧ ∀ H' r, Fr p c H H' → Stt p c H' → 0 ≤ r → r < lim → Q (.int r) H'
end L2

namespace K23
open PySem PySem.Spec PyProof.Rows L2
def topS (i : Nat) : Stmt := PySem.Challenge.pw_steppedtests_k23_covering_states.main.body.getD i (.Pass ⟨0, 0, 0, 0⟩)
abbrev s_covers : Stmt := topS 1
abbrev N_covers : List Str := ["state", "other", "entry"]
abbrev P_covers : List Str := ["state", "other"]
theorem sc_covers : FnScope N_covers P_covers (defScope s_covers) := ⟨rfl, rfl, rfl, by decide +kernel, rfl, by decide +kernel, by decide +kernel⟩
abbrev s_l_draw : Stmt := topS 3
abbrev N_l_draw : List Str := ["_law_state", "_law_limit", "_law_cells", "_law_at", "_law_cell", "_law_mixed"]
abbrev P_l_draw : List Str := ["_law_state", "_law_limit"]
theorem sc_l_draw : FnScope N_l_draw P_l_draw (defScope s_l_draw) := ⟨rfl, rfl, rfl, by decide +kernel, rfl, by decide +kernel, by decide +kernel⟩
abbrev s_l_memory : Stmt := topS 4
abbrev N_l_memory : List Str := ["_law_state", "_law_count", "_law_entries", "_law_question", "_law_k", "_law_walker"]
abbrev P_l_memory : List Str := ["_law_state", "_law_count"]
theorem sc_l_memory : FnScope N_l_memory P_l_memory (defScope s_l_memory) := ⟨rfl, rfl, rfl, by decide +kernel, rfl, by decide +kernel, by decide +kernel⟩
abbrev s_l_bent : Stmt := topS 5
abbrev N_l_bent : List Str := ["_law_state", "_law_entries", "_law_count", "_law_found", "_law_entry", "_law_way", "_law_question", "_law_walker"]
abbrev P_l_bent : List Str := ["_law_state", "_law_entries", "_law_count"]
theorem sc_l_bent : FnScope N_l_bent P_l_bent (defScope s_l_bent) := ⟨rfl, rfl, rfl, by decide +kernel, rfl, by decide +kernel, by decide +kernel⟩
abbrev s_l_due : Stmt := topS 6
abbrev N_l_due : List Str := ["_law_one", "_law_two", "_law_entry"]
abbrev P_l_due : List Str := ["_law_one", "_law_two"]
theorem sc_l_due : FnScope N_l_due P_l_due (defScope s_l_due) := ⟨rfl, rfl, rfl, by decide +kernel, rfl, by decide +kernel, by decide +kernel⟩
abbrev s_law : Stmt := topS 7
abbrev N_law : List Str := ["_law_script", "_law_state", "_law_count", "_law_places", "_law_entries", "_law_one", "_law_two", "_law_others", "_law_told", "_law_found", "_law_due_here", "_law_walker"]
abbrev P_law : List Str := ["_law_script"]
theorem sc_law : FnScope N_law P_law (defScope s_law) := ⟨rfl, rfl, rfl, by decide +kernel, rfl, by decide +kernel, by decide +kernel⟩
structure Ad where
  f_covers : Addr
  d_covers : FuncData
  f_l_draw : Addr
  d_l_draw : FuncData
  f_l_memory : Addr
  d_l_memory : FuncData
  f_l_bent : Addr
  d_l_bent : FuncData
  f_l_due : Addr
  d_l_due : FuncData
  f_law : Addr
  d_law : FuncData
structure Txt (K : PySem.W.Frag) (mg : Str → Option Value) (a : Ad) : Prop where
  F_covers : Fun K "covers" "covers" s_covers a.f_covers a.d_covers
  b_covers : Binds K a.d_covers P_covers []
  k_covers : PySem.W.keepIn K (.ref a.f_covers) = true
  g_covers : mg "covers" = some (.ref a.f_covers)
  F_l_draw : Fun K "_law_draw" "_law_draw" s_l_draw a.f_l_draw a.d_l_draw
  b_l_draw : Binds K a.d_l_draw P_l_draw []
  k_l_draw : PySem.W.keepIn K (.ref a.f_l_draw) = true
  g_l_draw : mg "_law_draw" = some (.ref a.f_l_draw)
  F_l_memory : Fun K "_law_memory" "_law_memory" s_l_memory a.f_l_memory a.d_l_memory
  b_l_memory : Binds K a.d_l_memory P_l_memory []
  k_l_memory : PySem.W.keepIn K (.ref a.f_l_memory) = true
  g_l_memory : mg "_law_memory" = some (.ref a.f_l_memory)
  F_l_bent : Fun K "_law_bent" "_law_bent" s_l_bent a.f_l_bent a.d_l_bent
  b_l_bent : Binds K a.d_l_bent P_l_bent []
  k_l_bent : PySem.W.keepIn K (.ref a.f_l_bent) = true
  g_l_bent : mg "_law_bent" = some (.ref a.f_l_bent)
  F_l_due : Fun K "_law_due" "_law_due" s_l_due a.f_l_due a.d_l_due
  b_l_due : Binds K a.d_l_due P_l_due []
  k_l_due : PySem.W.keepIn K (.ref a.f_l_due) = true
  g_l_due : mg "_law_due" = some (.ref a.f_l_due)
  F_law : Fun K "law" "law" s_law a.f_law a.d_law
  b_law : Binds K a.d_law P_law []
  k_law : PySem.W.keepIn K (.ref a.f_law) = true
  g_law : mg "law" = some (.ref a.f_law)
  z_all : mg "all" = none
  z_bool : mg "bool" = none
  z_int : mg "int" = none
  z_isinstance : mg "isinstance" = none
  z_len : mg "len" = none
  z_list : mg "list" = none
  z_range : mg "range" = none
  z_tuple : mg "tuple" = none
section
variable {P : Program} {w : World} {K : PySem.W.Frag} {mg : Str → Option Value} {base : Heap} {a : Ad}
theorem ok_l_draw (T : Txt K mg a) : FnOk P w K mg base CX0 1 a.f_l_draw a.d_l_draw P_l_draw (spDr K) := by
  refine T.F_l_draw.ok sc_l_draw (fun vs H Q E h => ?_) (fun cdv A outer s H vs Q E hr h => ?_)
  · obtain ⟨p, c, lim, rfl, _⟩ := h
    rfl
  · obtain ⟨p, c, lim, rfl, hs, l0, l1, k⟩ := h
    refine ⟨_, (Evl.pss_cut (ps_set (i := 2) sc_l_draw.nd rfl (Or.inl rfl) (pe_ix ix_list (pv 0) pe_int (by intro _ _; rfl)))
  (Evl.pss_cut (ps_if (pt_not (pt_truth (pv 2) (by intro _; rfl)))
    (pss_one (ps_ret pe_int))
    pss_nil)
  (Evl.pss_cut (ps_set (i := 3) sc_l_draw.nd rfl (Or.inl rfl) (pe_op op_mod (pe_ix ix_list (pv 0) pe_int (by intro _ _; rfl)) (pe_callB call_len_seq (by rfl) T.z_len (by decide +kernel) (pa_cons (pv 2) pa_nil))))
  (Evl.pss_cut (ps_set (i := 4) sc_l_draw.nd rfl (Or.inl rfl) (pe_ix ix_list (pv 2) (pv 3) (by intro _ _; rfl)))
  (Evl.pss_cut (ps_asg (pe_op op_add (pe_ix ix_list (pv 0) pe_int (by intro _ _; rfl)) pe_int) (pg_sub (pv 0) pe_int set_list))
  (Evl.pss_cut (ps_if (pt_cmpR op_ge (pv 4) (pe_op op_pow pe_int pe_int) (nomark _))
    (pss_cons (ps_asg (pe_op op_fdivW (pv 4) (pv 1)) (pg_sub (pv 2) (pv 3) set_list))
  (pss_one (ps_ret (pe_op op_mod (pe_callTy call_int1 (by rfl) T.z_int (by decide +kernel) (pa_cons (pv 4) pa_nil)) (pv 1)))))
    pss_nil)
  (Evl.pss_cut (ps_set (i := 5) sc_l_draw.nd rfl (Or.inl rfl) (pe_op op_mod (pe_callTy call_int1 (by rfl) T.z_int (by decide +kernel) (pa_cons (pe_op op_add (pe_op op_add (pe_op op_mul (pv 4) pe_int) (pe_op op_mul (pe_ix ix_list (pv 0) pe_int (by intro _ _; rfl)) pe_int)) pe_int) pa_nil)) pe_int))
  (pss_one (ps_ret (pe_op op_mod (pe_op op_mod (pe_callTy call_int1 (by rfl) T.z_int (by decide +kernel) (pa_cons (pe_op op_add (pe_op op_mul (pv 5) pe_int) (pe_op op_mul (pe_ix ix_list (pv 0) pe_int (by intro _ _; rfl)) pe_int)) pa_nil)) pe_int) (pv 1))))))))))), ?_⟩
    obtain ⟨hne, ns, i, hp, hc⟩ := id hs
    have wd : CDivW 0 lim := wide_div (i := 0) (b := 200) l0 (by omega) (by decide) (by decide)
    refine ⟨fun σ H1 => σ = [some (.ref p), some (.int lim), some (.ref c), none, none, none] ∧ H1 = H, ?_, ?_⟩
    · exact ⟨_, rfl, p, _, 0, _, rfl, rfl, lst_of hp, rfl, rfl, rfl⟩
    rintro σ H1 ⟨rfl, rfl⟩
    refine ⟨fun σ H2 => ns ≠ [] ∧ σ = [some (.ref p), some (.int lim), some (.ref c), none, none, none] ∧ H2 = H1, ?_, ?_⟩
    · refine ⟨_, rfl, _, .inl ⟨_, lst_of hc, rfl⟩, ?_⟩
      cases ns with
      | nil => exact k H1 0 (Fr.refl _ _ _) hs (Int.le_refl _) l0
      | cons n ns => exact ⟨List.cons_ne_nil _ _, rfl, rfl⟩
    rintro σ H2 ⟨hnn, rfl, rfl⟩
    have hpos : 0 < ns.length := List.length_pos_iff.mpr hnn
    refine ⟨fun σ H1 => ∃ j : Nat, j < ns.length ∧ σ = [some (.ref p), some (.int lim), some (.ref c), some (.int j), none, none] ∧ H1 = H2, ?_, ?_⟩
    · refine ⟨_, rfl, p, _, 1, _, rfl, rfl, lst_of hp, rfl, _, rfl, c, _, rfl, .inl (lst_of hc), i, _, rfl, rfl, (by show (0 : Int) < ((ns.map V.int).length : Nat); rw [List.length_map]; omega), (i % (ns.length : Int)).toNat, ?_, ?_, rfl⟩
      · have h1 := Int.emod_nonneg i (show (ns.length : Int) ≠ 0 by omega)
        have h2 := Int.emod_lt_of_pos i (show (0 : Int) < ns.length by omega)
        omega
      · have h1 := Int.emod_nonneg i (show (ns.length : Int) ≠ 0 by omega)
        rw [List.length_map, Int.toNat_of_nonneg h1]
        rfl
    rintro σ H1 ⟨j, hj, rfl, rfl⟩
    have hcj : (ns.map V.int)[j]? = some (.int ns[j]) := by rw [List.getElem?_map, List.getElem?_eq_getElem hj]; rfl
    refine ⟨fun σ H2 => σ = [some (.ref p), some (.int lim), some (.ref c), some (.int j), some (.int ns[j]), none] ∧ H2 = H1, ?_, ?_⟩
    · exact ⟨_, rfl, _, rfl, c, _, (j : Int), _, rfl, rfl, lst_of hc, atI_nat hcj, rfl, rfl⟩
    rintro σ H2 ⟨rfl, rfl⟩
    refine ⟨fun σ H1 => σ = [some (.ref p), some (.int lim), some (.ref c), some (.int j), some (.int ns[j]), none] ∧ H1 = upd H2 p (.lst [.ref c, .int (i + 1)]), ?_, ?_⟩
    · exact ⟨_, rfl, p, _, 1, _, rfl, rfl, lst_of hp, rfl, _, _, rfl, rfl, _, rfl, p, _, 1, 1, rfl, rfl, hp, rfl, rfl, rfl⟩
    rintro σ H1 ⟨rfl, rfl⟩
    have hp1 : upd H2 p (.lst [.ref c, .int (i + 1)]) p = some (.lst [.ref c, .int (i + 1)]) := upd_same
    have hc1 : upd H2 p (.lst [.ref c, .int (i + 1)]) c = some (.lst (ns.map V.int)) := by rw [upd_ne hne.symm]; exact hc
    have f1 : Fr p c H2 (upd H2 p (.lst [.ref c, .int (i + 1)])) := ⟨fun b o nl h => by
      rw [upd_ne (fun z => by subst z; rw [hp] at h; exact nl _ (Option.some.inj h).symm)]; exact h, fun b xs n1 n2 h => by rw [upd_ne n1]; exact h⟩
    refine ⟨fun σ H1 => σ = [some (.ref p), some (.int lim), some (.ref c), some (.int j), some (.int ns[j]), none] ∧ H1 = upd H2 p (.lst [.ref c, .int (i + 1)]), ?_, ?_⟩
    · refine ⟨_, rfl, _, 18, rfl, rfl, ⟨by decide, by decide, by decide⟩, _, _, rfl, rfl, _, rfl, ite2 (fun _ => ?_) (fun _ => ⟨rfl, rfl⟩)⟩
      refine ⟨_, rfl, _, rfl, _, lim, rfl, rfl, ⟨wd.1, wd.2⟩, _, rfl, _, rfl, c, _, _, j, rfl, rfl, hc1, ixN_nat (by rw [List.length_map]; exact hj), ?_⟩
      refine ⟨_, rfl, .inl ⟨_, rfl, _, rfl, _, lim, rfl, rfl, l0, ?_⟩⟩
      refine k _ _ (f1.trans ⟨fun b o nl h => ?_, fun b xs n1 n2 h => by rw [upd_ne n2]; exact h⟩) ⟨hne, ns.set j (ns[j] / lim), i + 1, by rw [upd_ne hne]; exact hp1, by rw [upd_same, List.map_set]⟩ (Int.emod_nonneg _ (by omega)) (Int.emod_lt_of_pos _ l0)
      rw [upd_ne (fun z => by subst z; rw [hc1] at h; exact nl _ (Option.some.inj h).symm)]
      exact h
    rintro σ H1 ⟨rfl, rfl⟩
    have fin : ∀ r, 0 ≤ r → r < lim → Q (.int r) (upd H2 p (.lst [.ref c, .int (i + 1)])) := fun r r0 r1 => k _ r f1 ⟨hne, ns, i + 1, hp1, hc1⟩ r0 r1
    refine ⟨fun σ H1 => ∃ m : Int, σ = [some (.ref p), some (.int lim), some (.ref c), some (.int j), some (.int ns[j]), some (.int m)] ∧ H1 = upd H2 p (.lst [.ref c, .int (i + 1)]), ?_, ?_⟩
    · refine ⟨_, rfl, _, 48271, rfl, rfl, .inr ⟨by decide, by decide⟩, _, rfl, p, _, 1, _, rfl, rfl, lst_of hp1, rfl, _, 69621, rfl, rfl, .inr ⟨by decide, by decide⟩, _, _, rfl, rfl, _, _, rfl, rfl, .inl ⟨_, rfl, _, 2147483647, rfl, rfl, (by show (0 : Int) < 2147483647; decide), _, rfl, rfl⟩⟩
    rintro σ H1 ⟨m, rfl, rfl⟩
    refine ⟨_, rfl, _, 16807, rfl, rfl, .inr ⟨by decide, by decide⟩, _, rfl, p, _, 1, _, rfl, rfl, lst_of hp1, rfl, _, 40692, rfl, rfl, .inr ⟨by decide, by decide⟩, _, _, rfl, rfl, .inl ⟨_, rfl, _, 2147483629, rfl, rfl, (by show (0 : Int) < 2147483629; decide), _, rfl, _, lim, rfl, rfl, l0, ?_⟩⟩
    exact fin _ (Int.emod_nonneg _ (by omega)) (Int.emod_lt_of_pos _ l0)
/-! entries of a memory as data -/
def entD (m : Int × List Int) : PyData := .tuple [.int m.1, .tuple (m.2.map PyData.int)]
def EntAt (H : Hp) (c : Addr) (m : Int × List Int) : Prop := ∃ t, H c = some (.tup [.int m.1, .ref t]) ∧ H t = some (.tup (m.2.map V.int))
def EntsAt (H : Hp) (cs : List Addr) (mem : List (Int × List Int)) : Prop := cs.length = mem.length ∧ ∀ (i : Nat) c m, cs[i]? = some c → mem[i]? = some m → EntAt H c m
theorem EntAt.fr {p c : Addr} {H H' : Hp} {x : Addr} {m : Int × List Int} (e : Fr p c H H') (h : EntAt H x m) : EntAt H' x m := let ⟨t, h1, h2⟩ := h; ⟨t, e.tup h1, e.tup h2⟩
theorem EntsAt.fr {p c : Addr} {H H' : Hp} {cs : List Addr} {mem : List (Int × List Int)} (e : Fr p c H H') (h : EntsAt H cs mem) : EntsAt H' cs mem := ⟨h.1, fun i x m h1 h2 => (h.2 i x m h1 h2).fr e⟩
theorem EntsAt.same {H H' : Hp} {cs : List Addr} {mem : List (Int × List Int)} (e : Same H H') (h : EntsAt H cs mem) : EntsAt H' cs mem := h.fr (p := 0) (c := 0) e.fr
theorem EntsAt.snoc {H : Hp} {cs : List Addr} {mem : List (Int × List Int)} {x : Addr} {m : Int × List Int} (h : EntsAt H cs mem) (h2 : EntAt H x m) : EntsAt H (cs ++ [x]) (mem ++ [m]) := by
  refine ⟨by rw [List.length_append, List.length_append, h.1]; rfl, fun i y n h3 h4 => ?_⟩
  by_cases hi : i < cs.length
  · rw [List.getElem?_append_left hi] at h3
    rw [List.getElem?_append_left (by rw [← h.1]; exact hi)] at h4
    exact h.2 i y n h3 h4
  · rw [List.getElem?_append_right (by omega)] at h3
    rw [List.getElem?_append_right (by rw [← h.1]; omega), ← h.1] at h4
    have h0 : i - cs.length = 0 := by
      have := (List.getElem?_eq_some_iff.mp h3).1
      rw [List.length_singleton] at this
      omega
    rw [h0] at h3 h4
    obtain rfl := Option.some.inj h3
    obtain rfl := Option.some.inj h4
    exact h2
theorem EntsAt.get {H : Hp} {cs : List Addr} {mem : List (Int × List Int)} (h : EntsAt H cs mem) {i : Nat} {c : Addr} (hc : cs[i]? = some c) : ∃ m, mem[i]? = some m ∧ EntAt H c m := by
  have hi : i < mem.length := by rw [← h.1]; exact (List.getElem?_eq_some_iff.mp hc).1
  exact ⟨mem[i], List.getElem?_eq_getElem hi, h.2 i c _ hc (List.getElem?_eq_getElem hi)⟩
theorem EntAt.dp {H : Hp} {c : Addr} {m : Int × List Int} (h : EntAt H c m) : Dp K H (.ref c) (entD m) := by
  obtain ⟨t, h1, h2⟩ := h
  exact .tup (tup_of h1) (.cons (.int _) (.cons (.tup (tup_of h2) (dpAll_ints _)) .nil))
theorem dpAll_ents {H : Hp} : ∀ {cs : List Addr} {mem : List (Int × List Int)}, EntsAt H cs mem → DpAll K H (cs.map V.ref) (mem.map entD)
  | [], [], _ => .nil
  | [], _ :: _, h => by cases h.1
  | _ :: _, [], h => by cases h.1
  | a :: as, r :: rows, h => .cons (h.2 0 a r rfl rfl).dp (dpAll_ents ⟨by have := h.1; simpa using this, fun j b row h1 h2 => h.2 (j + 1) b row h1 h2⟩)
theorem canLay_ent (m : Int × List Int) : PyData.canLay0 (entD m) = true := by
  simp [entD, PyData.canLay0, PyData.canLayAll0, canLay_ints]
theorem depth_ent (m : Int × List Int) : PyData.depth (entD m) ≤ 2 := by
  simp [entD, PyData.depth, PyData.depthAll, depth_ints]
theorem canLay_ents : ∀ mem : List (Int × List Int), PyData.canLayAll0 (mem.map entD) = true
  | [] => by rw [List.map_nil, PyData.canLayAll0]
  | n :: r => by rw [List.map_cons, PyData.canLayAll0, canLay_ents r, canLay_ent]; rfl
theorem depth_ents : ∀ mem : List (Int × List Int), PyData.depthAll (mem.map entD) ≤ 2
  | [] => by rw [List.map_nil, PyData.depthAll]; decide
  | n :: r => by
    have := depth_ents r
    have := depth_ent n
    rw [List.map_cons, PyData.depthAll]
    omega
theorem shEnt (m : Int × List Int) : SeqAt.shaped (entD m) = true := by
  have := depth_ent m
  simp [SeqAt.shaped, canLay_ent]
  omega
theorem shEnts (mem : List (Int × List Int)) : SeqAt.shaped (.tuple (mem.map entD)) = true := by
  have := depth_ents mem
  simp [SeqAt.shaped, PyData.canLay0, canLay_ents, PyData.depth]
  omega
theorem eqv_ent (m : Int × List Int) : PyData.eqv (entD m) (entD m) = true := by
  have := evT m.2 m.2
  simp only [entD, PyData.eqv, PyData.eqvAll] at this ⊢
  simp_all
def hasE (mem : List (Int × List Int)) (d : PyData) : Bool := (mem.map entD).any fun z => PyData.eqv z d
def covB (pos : List Int) (mem : List (Int × List Int)) (pos2 : List Int) (mem2 : List (Int × List Int)) : Bool := decide (pos = pos2) && mem.all fun m => hasE mem2 (entD m)
theorem covB_self (pos : List Int) (mem : List (Int × List Int)) : covB pos mem pos mem = true := by
  unfold covB hasE
  rw [decide_eq_true rfl, Bool.true_and, List.all_eq_true]
  intro m hm
  rw [List.any_eq_true]
  exact ⟨entD m, List.mem_map.mpr ⟨m, hm, rfl⟩, eqv_ent m⟩
theorem covB_nil (pos : List Int) (mem : List (Int × List Int)) : covB pos mem pos [] = mem.isEmpty := by
  unfold covB hasE
  cases mem with
  | nil => simp
  | cons m r => simp
def StA (H : Hp) (x : Addr) (pos : List Int) (mem : List (Int × List Int)) : Prop := ∃ b d cs, H x = some (.tup [.ref b, .ref d]) ∧ H b = some (.tup (pos.map V.int)) ∧ H d = some (.tup (cs.map V.ref)) ∧ EntsAt H cs mem ∧ cs.length ≤ 20
theorem StA.same {H H' : Hp} {x : Addr} {pos : List Int} {mem : List (Int × List Int)} (e : Same H H') (h : StA H x pos mem) : StA H' x pos mem := let ⟨b, d, cs, h1, h2, h3, h4, h5⟩ := h; ⟨b, d, cs, e _ _ h1, e _ _ h2, e _ _ h3, h4.same e, h5⟩
def spCov (K : PySem.W.Frag) : Sp := fun vs H Q _ => ∃ (x y : Addr) (pos pos2 : List Int) (mem mem2 : List (Int × List Int)), vs = [.ref x, .ref y] ∧ StA H x pos mem ∧ StA H y pos2 mem2 ∧ ∀ H', Same H H' → Q (.bl (covB pos mem pos2 mem2)) H'
theorem ok_covers (T : Txt K mg a) : FnOk P w K mg base CX0 1 a.f_covers a.d_covers P_covers (spCov K) := by
  refine T.F_covers.ok sc_covers (fun vs H Q E h => ?_) (fun cdv A outer s H vs Q E hr h => ?_)
  · obtain ⟨x, y, pos, pos2, mem, mem2, rfl, _⟩ := h
    rfl
  · obtain ⟨x, y, pos, pos2, mem, mem2, rfl, ⟨b, d, cs, hx, hb, hd, hm, hl⟩, ⟨b2, d2, cs2, hy, hb2, hd2, hm2, hl2⟩, k⟩ := h
    refine ⟨_, (pss_one (ps_ret (pe_and (pe_cmpR (op_eqD hr.units) (pe_ix ix_tup (pv 0) pe_int (by intro _ _; rfl)) (pe_ix ix_tup (pv 1) pe_int (by intro _ _; rfl)) (nomark _)) (pe_one (pe_callB (cr_all rfl) (by rfl) T.z_all (by decide +kernel) (pa_cons (pe_lc (own := [("entry", 2)]) (g := gName 2) (tt := tYes) (te := (tOp (rInDT K) (tVar 2) (tOp (rIxT K) (tVar 1) (tC (.int 1))))) rfl sc_covers.nd (pi_tup (pe_ix ix_tup (pv 0) pe_int (by intro _ _; rfl))) (blkOk_by (N := N_covers) (sc := defScope s_covers) (by decide +kernel)) (fun _ _ _ _ _ => pg_name (i := 2) sc_covers.nd rfl (Or.inl rfl)) (fun _ _ _ _ _ => pts_nil) (fun _ _ _ _ _ => by exact (pe_cmpR (op_inDT hr.units65) (pv 2) (pe_ix ix_tup (pv 1) pe_int (by intro _ _; rfl)) (by with_unfolding_all rfl)))) pa_nil)))))), ?_⟩
    refine ⟨_, rfl, x, _, 0, _, rfl, rfl, tup_of hx, rfl, _, rfl, y, _, 0, _, rfl, rfl, tup_of hy, rfl, eqD_tup (tup_of hb) (tup_of hb2) ⟨_, rfl, ?_⟩⟩
    by_cases hp : pos = pos2
    · rw [decide_eq_true hp]
      refine iteT ?_
      refine ⟨_, rfl, x, _, 1, _, rfl, rfl, tup_of hx, rfl, d, rfl, ⟨_, tup_of hd⟩, fun D nD => ?_⟩
      refine lc_tup (K := K) (a := d) (xs := cs.map V.ref) (fun i H2 => Same H H2 ∧ H2 D = some (.lst ((((mem.take i).map fun m => hasE mem2 (entD m))).map V.bl))) ⟨same_upd nD, upd_same⟩ (fun i H2 _ h => tup_of (h.1 _ _ hd)) (fun i z H2 hi h => ?_) (fun H2 h => ?_)
      · obtain ⟨f2, hD⟩ := h
        obtain ⟨c, hc, rfl⟩ : ∃ c, cs[i]? = some c ∧ z = .ref c := by
          rw [List.getElem?_map] at hi
          cases hh : cs[i]? with
          | none => rw [hh] at hi; cases hi
          | some z => rw [hh] at hi; exact ⟨z, rfl, (Option.some.inj hi).symm⟩
        obtain ⟨m, hmi, hme⟩ := (hm.same f2).get hc
        refine ⟨rfl, tyes ⟨_, rfl, _, rfl, y, _, 1, _, rfl, rfl, tup_of (f2 _ _ hy), rfl, entD m, mem2.map entD, hme.dp, .tup (tup_of (f2 _ _ hd2)) (dpAll_ents (hm2.same f2)), shEnt m, shEnts mem2, _, hD, by rw [List.length_map, List.length_map, List.length_take, sizeLine_eq]; have := hm.1; omega, f2.mut nD, ?_⟩⟩
        rw [upd_same, take_get hmi, List.map_append, List.map_append]
        rfl
      · obtain ⟨f2, hD⟩ := h
        rw [List.length_map, hm.1, List.take_length] at hD
        refine ⟨D, _, rfl, lst_of hD, ?_⟩
        have e : ((mem.map fun m => hasE mem2 (entD m)).all id) = covB pos mem pos2 mem2 := by
          unfold covB
          rw [decide_eq_true hp, Bool.true_and, List.all_map]
          rfl
        rw [e]
        exact k _ f2
    · rw [decide_eq_false hp]
      have e : covB pos mem pos2 mem2 = false := by unfold covB; rw [decide_eq_false hp, Bool.false_and]
      rw [e] at k
      exact iteF (k H (Same.refl _))
theorem ok_l_due (T : Txt K mg a) : FnOk P w K mg base CX0 1 a.f_l_due a.d_l_due P_l_due (spCov K) := by
  refine T.F_l_due.ok sc_l_due (fun vs H Q E h => ?_) (fun cdv A outer s H vs Q E hr h => ?_)
  · obtain ⟨x, y, pos, pos2, mem, mem2, rfl, _⟩ := h
    rfl
  · obtain ⟨x, y, pos, pos2, mem, mem2, rfl, ⟨b, d, cs, hx, hb, hd, hm, hl⟩, ⟨b2, d2, cs2, hy, hb2, hd2, hm2, hl2⟩, k⟩ := h
    refine ⟨_, (pss_cons (ps_if (pt_cmpR (op_neD hr.units) (pe_ix ix_tup (pv 0) pe_int (by intro _ _; rfl)) (pe_ix ix_tup (pv 1) pe_int (by intro _ _; rfl)) (nomark _))
    (pss_one (ps_ret pe_bl))
    pss_nil)
  (pss_cons (ps_for PassesOwn.never rfl (pi_tup (pe_ix ix_tup (pv 0) pe_int (by intro _ _; rfl))) (pg_name (i := 2) sc_l_due.nd rfl (Or.inl rfl))
    (pss_one (ps_if (pt_cmpR (op_notInDT hr.units65) (pv 2) (pe_ix ix_tup (pv 1) pe_int (by intro _ _; rfl)) (by with_unfolding_all rfl))
    (pss_one (ps_ret pe_bl))
    pss_nil)))
  (pss_one (ps_ret pe_bl)))), ?_⟩
    refine ⟨_, rfl, x, _, 0, _, rfl, rfl, tup_of hx, rfl, _, rfl, y, _, 0, _, rfl, rfl, tup_of hy, rfl, neD_tup (tup_of hb) (tup_of hb2) ⟨_, rfl, ?_⟩⟩
    by_cases hp : pos = pos2
    · rw [decide_eq_true hp]
      refine iteF ?_
      refine ⟨_, rfl, x, _, 1, _, rfl, rfl, tup_of hx, rfl, d, rfl, ⟨_, tup_of hd⟩, for_tup (K := K) (a := d) (xs := cs.map V.ref) (fun i σ H2 => ∃ v, σ = [some (.ref x), some (.ref y), v] ∧ H2 = H ∧ (mem.take i).all (fun m => hasE mem2 (entD m)) = true) ⟨_, rfl, rfl, rfl⟩ (fun i σ H2 _ ⟨_, _, e, _⟩ => by subst e; exact tup_of hd) ?_ ?_⟩
      · rintro i z σ H2 hi ⟨v, rfl, rfl, hall⟩
        obtain ⟨c, hc, rfl⟩ : ∃ c, cs[i]? = some c ∧ z = .ref c := by
          rw [List.getElem?_map] at hi
          cases hh : cs[i]? with
          | none => rw [hh] at hi; cases hi
          | some z => rw [hh] at hi; exact ⟨z, rfl, (Option.some.inj hi).symm⟩
        obtain ⟨m, hmi, hme⟩ := hm.get hc
        refine ⟨_, rfl, _, rfl, y, _, 1, _, rfl, rfl, tup_of hy, rfl, entD m, mem2.map entD, hme.dp, .tup (tup_of hd2) (dpAll_ents hm2), shEnt m, shEnts mem2, _, rfl, ite2 (fun hh => ?_) (fun hh => ?_)⟩
        · have hf : hasE mem2 (entD m) = false := by unfold hasE; simpa using hh
          have e : covB pos mem pos2 mem2 = false := by
            unfold covB
            rw [Bool.and_eq_false_iff]
            right
            rw [List.all_eq_false]
            exact ⟨m, List.mem_of_getElem? hmi, by rw [hf]; decide⟩
          rw [e] at k
          exact k _ (Same.refl _)
        · have hf : hasE mem2 (entD m) = true := by unfold hasE; simpa using hh
          refine ⟨_, rfl, rfl, ?_⟩
          rw [take_get hmi, List.all_append, hall, List.all_cons, hf]
          rfl
      · rintro σ H2 ⟨v, rfl, rfl, hall⟩
        rw [List.length_map, hm.1, List.take_length] at hall
        have e : covB pos mem pos2 mem2 = true := by unfold covB; rw [decide_eq_true hp, Bool.true_and]; exact hall
        rw [e] at k
        exact k _ (Same.refl _)
    · rw [decide_eq_false hp]
      have e : covB pos mem pos2 mem2 = false := by unfold covB; rw [decide_eq_false hp, Bool.false_and]
      rw [e] at k
      exact iteT (k H (Same.refl _))
end
end K23

namespace K23
open PySem PySem.Spec PyProof.Rows L2
section
variable {P : Program} {w : World} {K : PySem.W.Frag} {mg : Str → Option Value} {base : Heap} {a : Ad}
def spMem (K : PySem.W.Frag) : Sp := fun vs H Q _ => ∃ (p c : Addr) (n : Nat), vs = [.ref p, .int (n : Int)] ∧ Stt p c H ∧ n ≤ 3 ∧ ∀ H' D cs mem, H D = none → Fr p c H H' → Stt p c H' → H' D = some (.lst (cs.map V.ref)) → EntsAt H' cs mem → cs.length ≤ 10 → Q (.ref D) H'
theorem ok_l_memory (T : Txt K mg a) : FnOk P w K mg base CX0 2 a.f_l_memory a.d_l_memory P_l_memory (spMem K) := by
  refine T.F_l_memory.ok sc_l_memory (fun vs H Q E h => ?_) (fun cdv A outer s H vs Q E hr h => ?_)
  · obtain ⟨p, c, n, rfl, _⟩ := h
    rfl
  · obtain ⟨p, c, n, rfl, hs, hn, k⟩ := h
    refine ⟨_, (Evl.pss_cut (ps_set (i := 2) sc_l_memory.nd rfl (Or.inl rfl) (pe_lst pa_nil))
  (Evl.pss_cut (ps_set (i := 3) sc_l_memory.nd rfl (Or.inl rfl) (pe_un un_neg pe_int))
  (Evl.pss_cut (ps_for PassesOwn.never rfl (pi_range1 (by rfl) T.z_range (pa_cons (pe_call (ok_l_draw T) (hr.mono (by decide)) (by rfl) T.g_l_draw T.k_l_draw T.b_l_draw .nil pass0 (pa_cons (pv 0) (pa_cons pe_int pa_nil))) pa_nil)) (pg_name (i := 4) sc_l_memory.nd rfl (Or.inl rfl))
    (pss_cons (ps_set (i := 3) sc_l_memory.nd rfl (Or.inl rfl) (pe_op op_add (pe_op op_add (pv 3) pe_int) (pe_call (ok_l_draw T) (hr.mono (by decide)) (by rfl) T.g_l_draw T.k_l_draw T.b_l_draw .nil pass0 (pa_cons (pv 0) (pa_cons pe_int pa_nil)))))
  (pss_one (ps_expr (pe_bm PySem.F.plainAttrs_list PySem.F.slot_list_append PySem.F.type_list_append mt_append (pv 2) (pa_cons (pe_tup (pa_cons (pv 3) (pa_cons (pe_callTy call_tuple_of (by rfl) T.z_tuple (by decide +kernel) (pa_cons (pe_lc (own := [("_law_walker", 5)]) (g := gName 5) (tt := tYes) (te := (tOp (rI0 fun i j => .int (i - j)) (tCall (spDr K) [] E0 (tCons (tVar 0) (tCons (tC (.int 3)) tNil))) (tC (.int 1)))) rfl sc_l_memory.nd (pi_range1 (by rfl) T.z_range (pa_cons (pv 1) pa_nil)) (blkOk_by (N := N_l_memory) (sc := defScope s_l_memory) (by decide +kernel)) (fun _ _ _ _ _ => pg_name (i := 5) sc_l_memory.nd rfl (Or.inl rfl)) (fun _ _ _ _ _ => pts_nil) (fun _ _ _ _ _ => by exact (pe_op op_sub (pe_call (ok_l_draw T) (hr.mono (by decide)) (by rfl) T.g_l_draw T.k_l_draw T.b_l_draw .nil pass0 (pa_cons (pv 0) (pa_cons pe_int pa_nil))) pe_int))) pa_nil)) pa_nil))) pa_nil))))))
  (pss_one (ps_ret (pv 2)))))), ?_⟩
    refine ⟨fun σ H1 => ∃ D, σ = [some (.ref p), some (.int (n : Int)), some (.ref D), none, none, none] ∧ H D = none ∧ H1 D = some (.lst []) ∧ Same H H1, ?_, ?_⟩
    · exact ⟨by show 0 ≤ sizeLine; decide, fun D nD => ⟨D, rfl, nD, upd_same, same_upd nD⟩⟩
    rintro σ H1 ⟨D, rfl, nD, hD1, f1⟩
    have s1 := hs.same f1
    obtain ⟨m1, m2⟩ := hs.ne nD
    refine ⟨fun σ H2 => σ = [some (.ref p), some (.int (n : Int)), some (.ref D), some (.int (-1)), none, none] ∧ H2 = H1, ?_, ?_⟩
    · exact ⟨_, rfl, rfl, rfl⟩
    rintro σ H2 ⟨rfl, rfl⟩
    refine ⟨fun σ H3 => ∃ v3 v4 cs mem, σ = [some (.ref p), some (.int (n : Int)), some (.ref D), v3, v4, none] ∧ Stt p c H3 ∧ Fr p c H H3 ∧ H3 D = some (.lst (cs.map V.ref)) ∧ EntsAt H3 cs mem ∧ cs.length ≤ 10, ?_, ?_⟩
    · refine ⟨_, rfl, p, c, 6, rfl, s1, by decide, by decide, fun H3 r f3 s3 r0 r1 => ⟨_, rfl, by omega, by omega, ?_⟩⟩
      refine for_range (lo := 0) (n := r.toNat) (fun i σ H4 => ∃ v3 : Int, ∃ v4 cs mem, σ = [some (.ref p), some (.int (n : Int)), some (.ref D), some (.int v3), v4, none] ∧ Stt p c H4 ∧ Fr p c H H4 ∧ H4 D = some (.lst (cs.map V.ref)) ∧ EntsAt H4 cs mem ∧ cs.length = i)
        ⟨-1, none, [], [], rfl, s3, f1.fr.trans f3, f3.2 _ _ m1 m2 hD1, ⟨rfl, fun i _ _ h => by simp at h⟩, rfl⟩ ?_ (fun σ H4 ⟨v3, v4, cs, mem, h1, h2, h3, h4, h5, h6⟩ => ⟨_, _, cs, mem, h1, h2, h3, h4, h5, by omega⟩)
      rintro i σ H4 hi ⟨v3, v4, cs, mem, rfl, s4, f4, hD4, he4, hcl⟩
      refine ⟨_, rfl, _, _, rfl, rfl, _, rfl, p, c, 8, rfl, s4, by decide, by decide, fun H5 r5 f5 s5 r0 r1 => ⟨_, _, rfl, rfl, ?_⟩⟩
      have hD5 := f5.2 _ _ m1 m2 hD4
      refine ⟨_, rfl, .inl ⟨rfl, _, lst_of hD5⟩, _, rfl, _, rfl, ?_⟩
      have nq := fun (q : Addr) (hq : H5 q = none) => s5.ne hq
      refine ⟨_, rfl, by omega, by omega, fun D2 nD2 => ?_⟩
      rw [Int.toNat_natCast]
      obtain ⟨n1, n2⟩ := nq D2 nD2
      refine lc_range (lo := 0) (n := n) (fun j H4 => ∃ l : List Int, H4 D2 = some (.lst (l.map V.int)) ∧ l.length = j ∧ Fr p c H5 H4 ∧ Stt p c H4) ⟨[], upd_same, rfl, (same_upd nD2).fr, s5.upd nD2⟩ (fun j H4 hj h => ?_) (fun H4' h => ?_)
      · obtain ⟨l, hD2, hl, f4', s4'⟩ := h
        refine ⟨rfl, tyes ⟨_, rfl, p, c, 3, rfl, s4', by decide, by decide, fun H5 r f5 s5 r0 r1 => ⟨_, _, rfl, rfl, _, f5.2 _ _ n1 n2 hD2, by rw [List.length_map, sizeLine_eq]; omega, l ++ [r - 1], by rw [upd_same, List.map_append]; rfl, by rw [List.length_append, hl]; rfl, (f4'.trans f5).mut nD2, s5.mut n1 n2⟩⟩⟩
      · obtain ⟨l, hD2, hl, f4', s4'⟩ := h
        refine ⟨D2, _, rfl, .inl ⟨lst_of hD2, fun t nt => ?_⟩⟩
        have ft := f4'.trans (same_upd nt (o := .tup (l.map V.int))).fr
        have st := s4'.upd nt (o := .tup (l.map V.int))
        have ht := upd_same (H := H4') (a := t) (o := .tup (l.map V.int))
        refine ⟨by show 2 ≤ sizeLine; decide, fun u nu => ?_⟩
        have fu := ft.trans (same_upd nu (o := .tup [.int (v3 + 1 + r5), .ref t])).fr
        have su := st.upd nu (o := .tup [.int (v3 + 1 + r5), .ref t])
        have hDu := fu.2 _ _ m1 m2 hD5
        have nD3 : D ≠ u := fun z => by subst z; rw [(same_upd nt) _ _ (f4'.2 _ _ m1 m2 hD5)] at nu; cases nu
        refine ⟨D, _, _, rfl, rfl, hDu, by rw [List.length_map, sizeLine_eq]; omega, v3 + 1 + r5, _, cs ++ [u], mem ++ [(v3 + 1 + r5, l)], rfl, su.mut m1 m2, ((f4.trans f5).trans fu).mut nD, by rw [upd_same, List.map_append]; rfl, ?_, by rw [List.length_append, hcl]; rfl⟩
        have hm : ∀ b o, b ≠ D → (upd (upd H4' t (.tup (l.map V.int))) u (.tup [.int (v3 + 1 + r5), .ref t])) b = some o → upd (upd (upd H4' t (.tup (l.map V.int))) u (.tup [.int (v3 + 1 + r5), .ref t])) D (.lst (cs.map V.ref ++ [.ref u])) b = some o := fun b o hb h => by rw [upd_ne hb]; exact h
        have fD : Fr D D (upd (upd H4' t (.tup (l.map V.int))) u (.tup [.int (v3 + 1 + r5), .ref t])) (upd (upd (upd H4' t (.tup (l.map V.int))) u (.tup [.int (v3 + 1 + r5), .ref t])) D (.lst (cs.map V.ref ++ [.ref u]))) :=
          ⟨fun b o nl h => hm b o (fun z => by subst z; rw [hDu] at h; exact nl _ (Option.some.inj h).symm) h, fun b xs n1 _ h => hm b _ n1 h⟩
        refine ((he4.fr f5).fr fu |>.snoc ⟨t, upd_same, (same_upd nu) _ _ ht⟩).fr fD
    rintro σ H3 ⟨v3, v4, cs, mem, rfl, s3, f3, hD3, he3, hl3⟩
    exact ⟨_, rfl, k _ _ _ _ nD f3 s3 hD3 he3 hl3⟩
theorem ents_app {H : Hp} {D u : Addr} {cs : List Addr} {mem : List (Int × List Int)} {m : Int × List Int} (hD : H D = some (.lst (cs.map V.ref))) (he : EntsAt H cs mem) (hu : EntAt H u m) : EntsAt (upd H D (.lst (cs.map V.ref ++ [.ref u]))) (cs ++ [u]) (mem ++ [m]) := by
  have fD : Fr D D H (upd H D (.lst (cs.map V.ref ++ [.ref u]))) :=
    ⟨fun b o nl h => by rw [upd_ne (fun z => by subst z; rw [hD] at h; exact nl _ (Option.some.inj h).symm)]; exact h, fun b xs n1 _ h => by rw [upd_ne n1]; exact h⟩
  exact (he.snoc hu).fr fD
def spBent (K : PySem.W.Frag) : Sp := fun vs H Q _ => ∃ (p c q : Addr) (n : Nat) (cs0 : List Addr) (mem0 : List (Int × List Int)), vs = [.ref p, .ref q, .int (n : Int)] ∧ Stt p c H ∧ n ≤ 3 ∧ H q = some (.lst (cs0.map V.ref)) ∧ q ≠ p ∧ q ≠ c ∧ EntsAt H cs0 mem0 ∧ cs0.length ≤ 10 ∧ ∀ H' D cs mem, H D = none → Fr p c H H' → Stt p c H' → H' D = some (.lst (cs.map V.ref)) → EntsAt H' cs mem → cs.length ≤ 11 → Q (.ref D) H'
theorem ok_l_bent (T : Txt K mg a) : FnOk P w K mg base CX0 2 a.f_l_bent a.d_l_bent P_l_bent (spBent K) := by
  refine T.F_l_bent.ok sc_l_bent (fun vs H Q E h => ?_) (fun cdv A outer s H vs Q E hr h => ?_)
  · obtain ⟨p, c, q, n, cs0, mem0, rfl, _⟩ := h
    rfl
  · obtain ⟨p, c, q, n, cs0, mem0, rfl, hs, hn, hq, q1, q2, he0, hl0, k⟩ := h
    refine ⟨_, (Evl.pss_cut (ps_set (i := 3) sc_l_bent.nd rfl (Or.inl rfl) (pe_lst pa_nil))
  (Evl.pss_cut (ps_for PassesOwn.never rfl (pi_list (pv 1)) (pg_name (i := 4) sc_l_bent.nd rfl (Or.inl rfl))
    (pss_cons (ps_set (i := 5) sc_l_bent.nd rfl (Or.inl rfl) (pe_call (ok_l_draw T) (hr.mono (by decide)) (by rfl) T.g_l_draw T.k_l_draw T.b_l_draw .nil pass0 (pa_cons (pv 0) (pa_cons pe_int pa_nil))))
  (pss_one (ps_if (pt_cmpR op_eq (pv 5) pe_int (nomark _))
    (pss_one (ps_expr (pe_bm PySem.F.plainAttrs_list PySem.F.slot_list_append PySem.F.type_list_append mt_append (pv 3) (pa_cons (pe_tup (pa_cons (pe_ix ix_tup (pv 4) pe_int (by intro _ _; rfl)) (pa_cons (pe_callTy call_tuple_of (by rfl) T.z_tuple (by decide +kernel) (pa_cons (pe_lc (own := [("_law_walker", 7)]) (g := gName 7) (tt := tYes) (te := (tOp (rI0 fun i j => .int (i - j)) (tCall (spDr K) [] E0 (tCons (tVar 0) (tCons (tC (.int 3)) tNil))) (tC (.int 1)))) rfl sc_l_bent.nd (pi_range1 (by rfl) T.z_range (pa_cons (pv 2) pa_nil)) (blkOk_by (N := N_l_bent) (sc := defScope s_l_bent) (by decide +kernel)) (fun _ _ _ _ _ => pg_name (i := 7) sc_l_bent.nd rfl (Or.inl rfl)) (fun _ _ _ _ _ => pts_nil) (fun _ _ _ _ _ => by exact (pe_op op_sub (pe_call (ok_l_draw T) (hr.mono (by decide)) (by rfl) T.g_l_draw T.k_l_draw T.b_l_draw .nil pass0 (pa_cons (pv 0) (pa_cons pe_int pa_nil))) pe_int))) pa_nil)) pa_nil))) pa_nil))))
    (pss_one (ps_if (pt_cmpR op_gt (pv 5) pe_int (nomark _))
    (pss_one (ps_expr (pe_bm PySem.F.plainAttrs_list PySem.F.slot_list_append PySem.F.type_list_append mt_append (pv 3) (pa_cons (pv 4) pa_nil))))
    pss_nil))))))
  (Evl.pss_cut (ps_if (pt_cmpR op_eq (pe_call (ok_l_draw T) (hr.mono (by decide)) (by rfl) T.g_l_draw T.k_l_draw T.b_l_draw .nil pass0 (pa_cons (pv 0) (pa_cons pe_int pa_nil))) pe_int (nomark _))
    (pss_cons (ps_set (i := 6) sc_l_bent.nd rfl (Or.inl rfl) (pe_op op_add pe_int (pe_call (ok_l_draw T) (hr.mono (by decide)) (by rfl) T.g_l_draw T.k_l_draw T.b_l_draw .nil pass0 (pa_cons (pv 0) (pa_cons pe_int pa_nil)))))
  (pss_one (ps_expr (pe_bm PySem.F.plainAttrs_list PySem.F.slot_list_append PySem.F.type_list_append mt_append (pv 3) (pa_cons (pe_tup (pa_cons (pv 6) (pa_cons (pe_callTy call_tuple_of (by rfl) T.z_tuple (by decide +kernel) (pa_cons (pe_lc (own := [("_law_walker", 7)]) (g := gName 7) (tt := tYes) (te := (tOp (rI0 fun i j => .int (i - j)) (tCall (spDr K) [] E0 (tCons (tVar 0) (tCons (tC (.int 3)) tNil))) (tC (.int 1)))) rfl sc_l_bent.nd (pi_range1 (by rfl) T.z_range (pa_cons (pv 2) pa_nil)) (blkOk_by (N := N_l_bent) (sc := defScope s_l_bent) (by decide +kernel)) (fun _ _ _ _ _ => pg_name (i := 7) sc_l_bent.nd rfl (Or.inl rfl)) (fun _ _ _ _ _ => pts_nil) (fun _ _ _ _ _ => by exact (pe_op op_sub (pe_call (ok_l_draw T) (hr.mono (by decide)) (by rfl) T.g_l_draw T.k_l_draw T.b_l_draw .nil pass0 (pa_cons (pv 0) (pa_cons pe_int pa_nil))) pe_int))) pa_nil)) pa_nil))) pa_nil)))))
    pss_nil)
  (pss_one (ps_ret (pv 3)))))), ?_⟩
    refine ⟨fun σ H1 => ∃ D, σ = [some (.ref p), some (.ref q), some (.int (n : Int)), some (.ref D), none, none, none, none] ∧ H D = none ∧ H1 D = some (.lst []) ∧ Same H H1, ?_, ?_⟩
    · exact ⟨by show 0 ≤ sizeLine; decide, fun D nD => ⟨D, rfl, nD, upd_same, same_upd nD⟩⟩
    rintro σ H1 ⟨D, rfl, nD, hD1, f1⟩
    have s1 := hs.same f1
    obtain ⟨m1, m2⟩ := hs.ne nD
    refine ⟨fun σ H3 => ∃ v4 v5 cs mem, σ = [some (.ref p), some (.ref q), some (.int (n : Int)), some (.ref D), v4, v5, none, none] ∧ Stt p c H3 ∧ Fr p c H H3 ∧ H3 D = some (.lst (cs.map V.ref)) ∧ EntsAt H3 cs mem ∧ cs.length ≤ 10, ?_, ?_⟩
    · refine ⟨_, rfl, q, rfl, ⟨_, lst_of (f1 _ _ hq)⟩, for_list (K := K) (a := q) (xs := cs0.map V.ref) (fun i σ H3 => ∃ v4 v5 cs mem, σ = [some (.ref p), some (.ref q), some (.int (n : Int)), some (.ref D), v4, v5, none, none] ∧ Stt p c H3 ∧ Fr p c H H3 ∧ H3 D = some (.lst (cs.map V.ref)) ∧ EntsAt H3 cs mem ∧ cs.length ≤ i)
        ⟨none, none, [], [], rfl, s1, f1.fr, hD1, ⟨rfl, fun i _ _ h => by simp at h⟩, Nat.le_refl _⟩ (fun i σ H3 _ ⟨_, _, _, _, _, _, f3, _⟩ => lst_of (f3.2 _ _ q1 q2 hq)) ?_ (fun σ H3 ⟨v4, v5, cs, mem, h1, h2, h3, h4, h5, h6⟩ => ⟨_, _, cs, mem, h1, h2, h3, h4, h5, by rw [List.length_map] at h6; omega⟩)⟩
      rintro i y σ H4 hi ⟨v4, v5, cs, mem, rfl, s4, f4, hD4, he4, hcl⟩
      have hil : i < cs0.length := by have := (List.getElem?_eq_some_iff.mp hi).1; rw [List.length_map] at this; exact this
      obtain ⟨ci, hci, rfl⟩ : ∃ ci, cs0[i]? = some ci ∧ y = .ref ci := by
        rw [List.getElem?_map] at hi
        cases hh : cs0[i]? with
        | none => rw [hh] at hi; cases hi
        | some z => rw [hh] at hi; exact ⟨z, rfl, (Option.some.inj hi).symm⟩
      obtain ⟨m, hmi, hme0⟩ := he0.get hci
      refine ⟨_, rfl, p, c, 6, rfl, s4, by decide, by decide, fun H5 r5 f5 s5 r0 r1 => ?_⟩
      have hD5 := f5.2 _ _ m1 m2 hD4
      have g5 := f4.trans f5
      obtain ⟨tm, hc1, hc2⟩ := hme0.fr g5
      refine ⟨_, rfl, rfl, _, rfl, ite2 (fun _ => ?_) (fun _ => ?_)⟩
      · refine ⟨_, rfl, .inl ⟨rfl, _, lst_of hD5⟩, _, rfl, ci, _, 0, _, rfl, rfl, tup_of hc1, rfl, _, rfl, ?_⟩
        have nq := fun (q : Addr) (hq : H5 q = none) => s5.ne hq
        refine ⟨_, rfl, by omega, by omega, fun D2 nD2 => ?_⟩
        rw [Int.toNat_natCast]
        obtain ⟨n1, n2⟩ := nq D2 nD2
        refine lc_range (lo := 0) (n := n) (fun j H4 => ∃ l : List Int, H4 D2 = some (.lst (l.map V.int)) ∧ l.length = j ∧ Fr p c H5 H4 ∧ Stt p c H4) ⟨[], upd_same, rfl, (same_upd nD2).fr, s5.upd nD2⟩ (fun j H4 hj h => ?_) (fun H4' h => ?_)
        · obtain ⟨l, hD2, hl, f4', s4'⟩ := h
          refine ⟨rfl, tyes ⟨_, rfl, p, c, 3, rfl, s4', by decide, by decide, fun H5 r f5 s5 r0 r1 => ⟨_, _, rfl, rfl, _, f5.2 _ _ n1 n2 hD2, by rw [List.length_map, sizeLine_eq]; omega, l ++ [r - 1], by rw [upd_same, List.map_append]; rfl, by rw [List.length_append, hl]; rfl, (f4'.trans f5).mut nD2, s5.mut n1 n2⟩⟩⟩
        · obtain ⟨l, hD2, hl, f4', s4'⟩ := h
          refine ⟨D2, _, rfl, .inl ⟨lst_of hD2, fun t nt => ?_⟩⟩
          have ft := f4'.trans (same_upd nt (o := .tup (l.map V.int))).fr
          have st := s4'.upd nt (o := .tup (l.map V.int))
          have ht := upd_same (H := H4') (a := t) (o := .tup (l.map V.int))
          refine ⟨by show 2 ≤ sizeLine; decide, fun u nu => ?_⟩
          have fu := ft.trans (same_upd nu (o := .tup [.int m.1, .ref t])).fr
          have su := st.upd nu (o := .tup [.int m.1, .ref t])
          have hDu := fu.2 _ _ m1 m2 hD5
          refine ⟨D, _, _, rfl, rfl, hDu, by rw [List.length_map, sizeLine_eq]; omega, _, _, cs ++ [u], mem ++ [(m.1, l)], rfl, su.mut m1 m2, (g5.trans fu).mut nD, by rw [upd_same, List.map_append]; rfl, ents_app hDu ((he4.fr f5).fr fu) ⟨t, upd_same, (same_upd nu) _ _ ht⟩, by rw [List.length_append, List.length_singleton]; omega⟩
      · refine ⟨_, rfl, _, _, rfl, rfl, _, rfl, ite2 (fun _ => ?_) (fun _ => ?_)⟩
        · exact ⟨_, rfl, .inl ⟨rfl, _, lst_of hD5⟩, _, rfl, D, _, _, rfl, rfl, hD5, by rw [List.length_map, sizeLine_eq]; omega, _, _, cs ++ [ci], mem ++ [m], rfl, s5.mut m1 m2, g5.mut nD, by rw [upd_same, List.map_append]; rfl, ents_app hD5 (he4.fr f5) ⟨tm, hc1, hc2⟩, by rw [List.length_append, List.length_singleton]; omega⟩
        · exact ⟨_, _, cs, mem, rfl, s5, g5, hD5, he4.fr f5, by omega⟩
    rintro σ H3 ⟨v4, v5, cs, mem, rfl, s3, f3, hD3, he3, hcl⟩
    refine ⟨fun σ H4 => ∃ v6 cs mem, σ = [some (.ref p), some (.ref q), some (.int (n : Int)), some (.ref D), v4, v5, v6, none] ∧ Stt p c H4 ∧ Fr p c H H4 ∧ H4 D = some (.lst (cs.map V.ref)) ∧ EntsAt H4 cs mem ∧ cs.length ≤ 11, ?_, ?_⟩
    · refine ⟨_, rfl, p, c, 3, rfl, s3, by decide, by decide, fun H4 r4 f4 s4 r0 r1 => ⟨rfl, _, rfl, ite2 (fun _ => ?_) (fun _ => ?_)⟩⟩
      · refine ⟨_, rfl, p, c, 8, rfl, s4, by decide, by decide, fun H5 r5 f5 s5 r0 r1 => ⟨_, _, rfl, rfl, ?_⟩⟩
        have g5 := f3.trans (f4.trans f5)
        have hD5 := (f4.trans f5).2 _ _ m1 m2 hD3
        refine ⟨_, rfl, .inl ⟨rfl, _, lst_of hD5⟩, _, rfl, _, rfl, ?_⟩
        have nq := fun (q : Addr) (hq : H5 q = none) => s5.ne hq
        refine ⟨_, rfl, by omega, by omega, fun D2 nD2 => ?_⟩
        rw [Int.toNat_natCast]
        obtain ⟨n1, n2⟩ := nq D2 nD2
        refine lc_range (lo := 0) (n := n) (fun j H4 => ∃ l : List Int, H4 D2 = some (.lst (l.map V.int)) ∧ l.length = j ∧ Fr p c H5 H4 ∧ Stt p c H4) ⟨[], upd_same, rfl, (same_upd nD2).fr, s5.upd nD2⟩ (fun j H4 hj h => ?_) (fun H4' h => ?_)
        · obtain ⟨l, hD2, hl, f4', s4'⟩ := h
          refine ⟨rfl, tyes ⟨_, rfl, p, c, 3, rfl, s4', by decide, by decide, fun H5 r f5 s5 r0 r1 => ⟨_, _, rfl, rfl, _, f5.2 _ _ n1 n2 hD2, by rw [List.length_map, sizeLine_eq]; omega, l ++ [r - 1], by rw [upd_same, List.map_append]; rfl, by rw [List.length_append, hl]; rfl, (f4'.trans f5).mut nD2, s5.mut n1 n2⟩⟩⟩
        · obtain ⟨l, hD2, hl, f4', s4'⟩ := h
          refine ⟨D2, _, rfl, .inl ⟨lst_of hD2, fun t nt => ?_⟩⟩
          have ft := f4'.trans (same_upd nt (o := .tup (l.map V.int))).fr
          have st := s4'.upd nt (o := .tup (l.map V.int))
          have ht := upd_same (H := H4') (a := t) (o := .tup (l.map V.int))
          refine ⟨by show 2 ≤ sizeLine; decide, fun u nu => ?_⟩
          have fu := ft.trans (same_upd nu (o := .tup [.int (40 + r5), .ref t])).fr
          have su := st.upd nu (o := .tup [.int (40 + r5), .ref t])
          have hDu := fu.2 _ _ m1 m2 hD5
          refine ⟨D, _, _, rfl, rfl, hDu, by rw [List.length_map, sizeLine_eq]; omega, _, cs ++ [u], mem ++ [(40 + r5, l)], rfl, su.mut m1 m2, (g5.trans fu).mut nD, by rw [upd_same, List.map_append]; rfl, ents_app hDu ((he3.fr (f4.trans f5)).fr fu) ⟨t, upd_same, (same_upd nu) _ _ ht⟩, by rw [List.length_append, List.length_singleton]; omega⟩
      · exact ⟨_, cs, mem, rfl, s4, f3.trans f4, f4.2 _ _ m1 m2 hD3, he3.fr f4, by omega⟩
    rintro σ H4 ⟨v6, cs, mem, rfl, s4, f4, hD4, he4, hcl⟩
    exact ⟨_, rfl, k _ _ _ _ nD f4 s4 hD4 he4 hcl⟩
theorem eqD_bls {H : Hp} {a b : Addr} {ns : List Bool} {Q : VK} (h1 : SqL K H a (ns.map V.bl)) (h2 : SqL K H b (ns.map V.bl)) (q : Q (.bl true) H) : rEqD K (.ref a) (.ref b) H Q :=
  ⟨_, _, .lst h1 (dpAll_bls ns), .lst h2 (dpAll_bls ns), shB ns, shB ns, by rw [PyData.eqv, evAll_bls]; exact q⟩
def sp_law (K : PySem.W.Frag) : Sp := fun vs H Q _ => ∃ (x : Addr) (ns : List Int), vs = [.ref x] ∧ ScrAt K H x (ns.map V.int) ∧ ns.length ≤ 63 ∧ ∀ H', Q (.bl true) H'
theorem StA.fr {p c : Addr} {H H' : Hp} {x : Addr} {pos : List Int} {mem : List (Int × List Int)} (e : Fr p c H H') (h : StA H x pos mem) : StA H' x pos mem := let ⟨b, d, cs, h1, h2, h3, h4, h5⟩ := h; ⟨b, d, cs, e.tup h1, e.tup h2, e.tup h3, h4.fr e, h5⟩
theorem ok_law (T : Txt K mg a) : FnOk P w K mg base CX0 3 a.f_law a.d_law P_law (sp_law K) := by
  refine T.F_law.ok sc_law (fun vs H Q E h => ?_) (fun cdv A outer s H vs Q E hr h => ?_)
  · obtain ⟨x, ns, rfl, _⟩ := h
    rfl
  · obtain ⟨x, ns, rfl, hx, hl, k⟩ := h
    refine ⟨_, (Evl.pss_cut (ps_set (i := 1) sc_law.nd rfl (Or.inr rfl) (pe_lst (pa_cons (pe_callTy call_list_of (by rfl) T.z_list (by decide +kernel) (pa_cons (pv 0) pa_nil)) (pa_cons pe_int pa_nil))))
  (Evl.pss_cut (ps_set (i := 2) sc_law.nd rfl (Or.inl rfl) (pe_op op_add pe_int (pe_call (ok_l_draw T) (hr.mono (by decide)) (by rfl) T.g_l_draw T.k_l_draw T.b_l_draw .nil pass0 (pa_cons (pv 1) (pa_cons pe_int pa_nil)))))
  (Evl.pss_cut (ps_set (i := 3) sc_law.nd rfl (Or.inl rfl) (pe_callTy call_tuple_of (by rfl) T.z_tuple (by decide +kernel) (pa_cons (pe_lc (own := [("_law_walker", 11)]) (g := gName 11) (tt := tYes) (te := (tOp (rI0 fun i j => .int (i - j)) (tCall (spDr K) [] E0 (tCons (tVar 1) (tCons (tC (.int 9)) tNil))) (tC (.int 4)))) rfl sc_law.nd (pi_range1 (by rfl) T.z_range (pa_cons (pv 2) pa_nil)) (blkOk_by (N := N_law) (sc := defScope s_law) (by decide +kernel)) (fun _ _ _ _ _ => pg_name (i := 11) sc_law.nd rfl (Or.inl rfl)) (fun _ _ _ _ _ => pts_nil) (fun _ _ _ _ _ => by exact (pe_op op_sub (pe_call (ok_l_draw T) (hr.mono (by decide)) (by rfl) T.g_l_draw T.k_l_draw T.b_l_draw .nil pass0 (pa_cons (pv 1) (pa_cons pe_int pa_nil))) pe_int))) pa_nil)))
  (Evl.pss_cut (ps_set (i := 4) sc_law.nd rfl (Or.inl rfl) (pe_call (ok_l_memory T) (hr.mono (by decide)) (by rfl) T.g_l_memory T.k_l_memory T.b_l_memory .nil pass0 (pa_cons (pv 1) (pa_cons (pv 2) pa_nil))))
  (Evl.pss_cut (ps_set (i := 5) sc_law.nd rfl (Or.inl rfl) (pe_tup (pa_cons (pv 3) (pa_cons (pe_callTy call_tuple_of (by rfl) T.z_tuple (by decide +kernel) (pa_cons (pv 4) pa_nil)) pa_nil))))
  (Evl.pss_cut (ps_if (pt_cmpR op_eq (pe_call (ok_l_draw T) (hr.mono (by decide)) (by rfl) T.g_l_draw T.k_l_draw T.b_l_draw .nil pass0 (pa_cons (pv 1) (pa_cons pe_int pa_nil))) pe_int (nomark _))
    (pss_one (ps_set (i := 6) sc_law.nd rfl (Or.inl rfl) (pe_tup (pa_cons (pv 3) (pa_cons (pe_callTy call_tuple_of (by rfl) T.z_tuple (by decide +kernel) (pa_cons (pe_call (ok_l_bent T) (hr.mono (by decide)) (by rfl) T.g_l_bent T.k_l_bent T.b_l_bent .nil pass0 (pa_cons (pv 1) (pa_cons (pv 4) (pa_cons (pv 2) pa_nil)))) pa_nil)) pa_nil)))))
    (pss_cons (ps_set (i := 7) sc_law.nd rfl (Or.inl rfl) (pe_callTy call_tuple_of (by rfl) T.z_tuple (by decide +kernel) (pa_cons (pe_lc (own := [("_law_walker", 11)]) (g := gName 11) (tt := tYes) (te := (tOp (rI0 fun i j => .int (i - j)) (tCall (spDr K) [] E0 (tCons (tVar 1) (tCons (tC (.int 9)) tNil))) (tC (.int 4)))) rfl sc_law.nd (pi_range1 (by rfl) T.z_range (pa_cons (pv 2) pa_nil)) (blkOk_by (N := N_law) (sc := defScope s_law) (by decide +kernel)) (fun _ _ _ _ _ => pg_name (i := 11) sc_law.nd rfl (Or.inl rfl)) (fun _ _ _ _ _ => pts_nil) (fun _ _ _ _ _ => by exact (pe_op op_sub (pe_call (ok_l_draw T) (hr.mono (by decide)) (by rfl) T.g_l_draw T.k_l_draw T.b_l_draw .nil pass0 (pa_cons (pv 1) (pa_cons pe_int pa_nil))) pe_int))) pa_nil)))
  (pss_one (ps_set (i := 6) sc_law.nd rfl (Or.inl rfl) (pe_tup (pa_cons (pv 7) (pa_cons (pe_callTy call_tuple_of (by rfl) T.z_tuple (by decide +kernel) (pa_cons (pe_call (ok_l_memory T) (hr.mono (by decide)) (by rfl) T.g_l_memory T.k_l_memory T.b_l_memory .nil pass0 (pa_cons (pv 1) (pa_cons (pv 2) pa_nil))) pa_nil)) pa_nil)))))))
  (Evl.pss_cut (ps_set (i := 8) sc_law.nd rfl (Or.inl rfl) (pe_lst (pa_cons (pe_call (ok_covers T) (hr.mono (by decide)) (by rfl) T.g_covers T.k_covers T.b_covers .nil pass0 (pa_cons (pv 5) (pa_cons (pv 6) pa_nil))) (pa_cons (pe_call (ok_covers T) (hr.mono (by decide)) (by rfl) T.g_covers T.k_covers T.b_covers .nil pass0 (pa_cons (pv 6) (pa_cons (pv 5) pa_nil))) (pa_cons (pe_call (ok_covers T) (hr.mono (by decide)) (by rfl) T.g_covers T.k_covers T.b_covers .nil pass0 (pa_cons (pv 5) (pa_cons (pv 5) pa_nil))) (pa_cons (pe_call (ok_covers T) (hr.mono (by decide)) (by rfl) T.g_covers T.k_covers T.b_covers .nil pass0 (pa_cons (pv 5) (pa_cons (pe_tup (pa_cons (pv 3) (pa_cons (pe_tup pa_nil) pa_nil))) pa_nil))) pa_nil))))))
  (Evl.pss_cut (ps_for PassesOwn.never rfl (pi_list (pv 8)) (pg_name (i := 9) sc_law.nd rfl (Or.inl rfl))
    (pss_one (ps_if (pt_not (pt_val (pe_callB call_isi (by rfl) T.z_isinstance (by decide +kernel) (pa_cons (pv 9) (pa_cons (pe_bltn (v := .ty "bool") (by rfl) T.z_bool (by decide +kernel) rfl) pa_nil)))))
    (pss_one (ps_ret pe_bl))
    pss_nil)))
  (Evl.pss_cut (ps_set (i := 10) sc_law.nd rfl (Or.inl rfl) (pe_lst (pa_cons (pe_call (ok_l_due T) (hr.mono (by decide)) (by rfl) T.g_l_due T.k_l_due T.b_l_due .nil pass0 (pa_cons (pv 5) (pa_cons (pv 6) pa_nil))) (pa_cons (pe_call (ok_l_due T) (hr.mono (by decide)) (by rfl) T.g_l_due T.k_l_due T.b_l_due .nil pass0 (pa_cons (pv 6) (pa_cons (pv 5) pa_nil))) (pa_cons pe_bl (pa_cons (pe_notT (pv 4)) pa_nil))))))
  (pss_one (ps_ret (pe_cmpR (op_eqD hr.units) (pv 8) (pv 10) (nomark _))))))))))))), ?_⟩
    refine ⟨fun σ H1 => ∃ p c, σ = [some (.ref x), some (.ref p), none, none, none, none, none, none, none, none, none, none] ∧ Stt p c H1, ?_, ?_⟩
    · refine ⟨_, rfl, x, _, rfl, .inl hx.seq, fun c nc => ⟨by show 2 ≤ sizeLine; decide, fun p np => ?_⟩⟩
      exact ⟨p, c, rfl, (ne_of_none upd_same np).symm, ns, 0, upd_same, (same_upd np) _ _ upd_same⟩
    rintro σ H1 ⟨p, c, rfl, s1⟩
    refine ⟨fun σ H2 => ∃ n : Nat, n ≤ 3 ∧ σ = [some (.ref x), some (.ref p), some (.int (n : Int)), none, none, none, none, none, none, none, none, none] ∧ Stt p c H2, ?_, ?_⟩
    · refine ⟨_, rfl, p, c, 3, rfl, s1, by decide, by decide, fun H2 r f2 s2 r0 r1 => ⟨_, _, rfl, rfl, (1 + r).toNat, by omega, ?_, s2⟩⟩
      rw [Int.toNat_of_nonneg (by omega)]
      rfl
    rintro σ H2 ⟨n, hn, rfl, s2⟩
    refine ⟨fun σ H3 => ∃ t : Addr, ∃ l : List Int, σ = [some (.ref x), some (.ref p), some (.int (n : Int)), some (.ref t), none, none, none, none, none, none, none, none] ∧ H3 t = some (.tup (l.map V.int)) ∧ Stt p c H3, ?_, ?_⟩
    · refine ⟨_, rfl, ?_⟩
      have nq := fun (q : Addr) (hq : H2 q = none) => s2.ne hq
      refine ⟨_, rfl, by omega, by omega, fun D2 nD2 => ?_⟩
      rw [Int.toNat_natCast]
      obtain ⟨n1, n2⟩ := nq D2 nD2
      refine lc_range (lo := 0) (n := n) (fun j H4 => ∃ l : List Int, H4 D2 = some (.lst (l.map V.int)) ∧ l.length = j ∧ Fr p c H2 H4 ∧ Stt p c H4) ⟨[], upd_same, rfl, (same_upd nD2).fr, s2.upd nD2⟩ (fun j H4 hj h => ?_) (fun H4' h => ?_)
      · obtain ⟨l, hD2, hl, f4', s4'⟩ := h
        refine ⟨rfl, tyes ⟨_, rfl, p, c, 9, rfl, s4', by decide, by decide, fun H5 r f5 s5 r0 r1 => ⟨_, _, rfl, rfl, _, f5.2 _ _ n1 n2 hD2, by rw [List.length_map, sizeLine_eq]; omega, l ++ [r - 4], by rw [upd_same, List.map_append]; rfl, by rw [List.length_append, hl]; rfl, (f4'.trans f5).mut nD2, s5.mut n1 n2⟩⟩⟩
      · obtain ⟨l, hD2, hl, f4', s4'⟩ := h
        refine ⟨D2, _, rfl, .inl ⟨lst_of hD2, fun t nt => ?_⟩⟩
        have ft := f4'.trans (same_upd nt (o := .tup (l.map V.int))).fr
        have st := s4'.upd nt (o := .tup (l.map V.int))
        have ht := upd_same (H := H4') (a := t) (o := .tup (l.map V.int))
        exact ⟨t, l, rfl, ht, st⟩
    rintro σ H3 ⟨pl, pos, rfl, hpl, s3⟩
    refine ⟨fun σ H4 => ∃ D cs mem, σ = [some (.ref x), some (.ref p), some (.int (n : Int)), some (.ref pl), some (.ref D), none, none, none, none, none, none, none] ∧ H4 pl = some (.tup (pos.map V.int)) ∧ Stt p c H4 ∧ H4 D = some (.lst (cs.map V.ref)) ∧ EntsAt H4 cs mem ∧ cs.length ≤ 10 ∧ D ≠ p ∧ D ≠ c, ?_, ?_⟩
    · exact ⟨_, rfl, _, rfl, p, c, n, rfl, s3, hn, fun H4 D cs mem nD f4 s4 hD he hcl => ⟨D, cs, mem, rfl, f4.tup hpl, s4, hD, he, hcl, (s3.ne nD).1, (s3.ne nD).2⟩⟩
    rintro σ H4 ⟨D, cs, mem, rfl, hpl, s4, hD, he, hcl, d1, d2⟩
    refine ⟨fun σ H5 => ∃ y, σ = [some (.ref x), some (.ref p), some (.int (n : Int)), some (.ref pl), some (.ref D), some (.ref y), none, none, none, none, none, none] ∧ H5 pl = some (.tup (pos.map V.int)) ∧ Stt p c H5 ∧ H5 D = some (.lst (cs.map V.ref)) ∧ EntsAt H5 cs mem ∧ StA H5 y pos mem, ?_, ?_⟩
    · refine ⟨_, rfl, _, rfl, D, _, rfl, .inl ⟨lst_of hD, fun t nt => ⟨by show 2 ≤ sizeLine; decide, fun y ny => ?_⟩⟩⟩
      have f := (same_upd nt (o := .tup (cs.map V.ref))).trans (same_upd ny (o := .tup [.ref pl, .ref t]))
      exact ⟨y, rfl, f _ _ hpl, s4.same f, f _ _ hD, he.same f, pl, t, cs, upd_same, f _ _ hpl, (same_upd ny) _ _ upd_same, he.same f, by omega⟩
    rintro σ H5 ⟨y, rfl, hpl, s5, hD, he, sy⟩
    refine ⟨fun σ H6 => ∃ z : Addr, ∃ v7, ∃ pos2 mem2, σ = [some (.ref x), some (.ref p), some (.int (n : Int)), some (.ref pl), some (.ref D), some (.ref y), some (.ref z), v7, none, none, none, none] ∧ H6 pl = some (.tup (pos.map V.int)) ∧ H6 D = some (.lst (cs.map V.ref)) ∧ StA H6 y pos mem ∧ StA H6 z pos2 mem2, ?_, ?_⟩
    · refine ⟨_, rfl, p, c, 2, rfl, s5, by decide, by decide, fun H6 r f6 s6 r0 r1 => ⟨rfl, _, rfl, ite2 (fun _ => ?_) (fun _ => ?_)⟩⟩
      · refine ⟨_, rfl, _, rfl, _, rfl, _, rfl, p, c, D, n, cs, mem, rfl, s6, hn, f6.2 _ _ d1 d2 hD, d1, d2, he.fr f6, hcl, fun H7 D2 cs2 mem2 nD2 f7 s7 hD2 he2 hcl2 => ?_⟩
        refine ⟨D2, _, rfl, .inl ⟨lst_of hD2, fun t nt => ⟨by show 2 ≤ sizeLine; decide, fun z nz => ?_⟩⟩⟩
        have f := (same_upd nt (o := .tup (cs2.map V.ref))).trans (same_upd nz (o := .tup [.ref pl, .ref t]))
        have g := (f6.trans f7).trans f.fr
        exact ⟨z, _, pos, mem2, rfl, g.tup hpl, g.2 _ _ d1 d2 hD, sy.fr g, pl, t, cs2, upd_same, g.tup hpl, (same_upd nz) _ _ upd_same, he2.same f, by omega⟩
      · refine ⟨_, rfl, ?_⟩
        have nq := fun (q : Addr) (hq : H6 q = none) => s6.ne hq
        refine ⟨_, rfl, by omega, by omega, fun D2 nD2 => ?_⟩
        rw [Int.toNat_natCast]
        obtain ⟨n1, n2⟩ := nq D2 nD2
        refine lc_range (lo := 0) (n := n) (fun j H4 => ∃ l : List Int, H4 D2 = some (.lst (l.map V.int)) ∧ l.length = j ∧ Fr p c H6 H4 ∧ Stt p c H4) ⟨[], upd_same, rfl, (same_upd nD2).fr, s6.upd nD2⟩ (fun j H4 hj h => ?_) (fun H4' h => ?_)
        · obtain ⟨l, hD2, hl, f4', s4'⟩ := h
          refine ⟨rfl, tyes ⟨_, rfl, p, c, 9, rfl, s4', by decide, by decide, fun H5 r f5 s5 r0 r1 => ⟨_, _, rfl, rfl, _, f5.2 _ _ n1 n2 hD2, by rw [List.length_map, sizeLine_eq]; omega, l ++ [r - 4], by rw [upd_same, List.map_append]; rfl, by rw [List.length_append, hl]; rfl, (f4'.trans f5).mut nD2, s5.mut n1 n2⟩⟩⟩
        · obtain ⟨l, hD2, hl, f4', s4'⟩ := h
          refine ⟨D2, _, rfl, .inl ⟨lst_of hD2, fun t nt => ?_⟩⟩
          have ft := f4'.trans (same_upd nt (o := .tup (l.map V.int))).fr
          have st := s4'.upd nt (o := .tup (l.map V.int))
          have ht := upd_same (H := H4') (a := t) (o := .tup (l.map V.int))
          have g6 := f6.trans ft
          refine ⟨_, rfl, _, rfl, _, rfl, p, c, n, rfl, st, hn, fun H7 D2 cs2 mem2 nD2 f7 s7 hD2 he2 hcl2 => ?_⟩
          refine ⟨D2, _, rfl, .inl ⟨lst_of hD2, fun t2 nt2 => ⟨by show 2 ≤ sizeLine; decide, fun z nz => ?_⟩⟩⟩
          have f := (same_upd nt2 (o := .tup (cs2.map V.ref))).trans (same_upd nz (o := .tup [.ref t, .ref t2]))
          have g := (g6.trans f7).trans f.fr
          exact ⟨z, _, l, mem2, rfl, g.tup hpl, g.2 _ _ d1 d2 hD, sy.fr g, t, t2, cs2, upd_same, f _ _ (f7.tup ht), (same_upd nz) _ _ upd_same, he2.same f, by omega⟩
    rintro σ H6 ⟨z, v7, pos2, mem2, rfl, hpl, hD, sy, sz⟩
    refine ⟨fun σ H7 => ∃ L, σ = [some (.ref x), some (.ref p), some (.int (n : Int)), some (.ref pl), some (.ref D), some (.ref y), some (.ref z), v7, some (.ref L), none, none, none] ∧ H7 D = some (.lst (cs.map V.ref)) ∧ StA H7 y pos mem ∧ StA H7 z pos2 mem2 ∧ H7 L = some (.lst ([covB pos mem pos2 mem2, covB pos2 mem2 pos mem, covB pos mem pos mem, covB pos mem pos []].map V.bl)), ?_, ?_⟩
    · refine ⟨_, rfl, _, rfl, y, z, pos, pos2, mem, mem2, rfl, sy, sz, fun H7 f7 => ?_⟩
      refine ⟨_, rfl, _, rfl, z, y, pos2, pos, mem2, mem, rfl, sz.same f7, sy.same f7, fun H8 f8 => ?_⟩
      have f8 := f7.trans f8
      refine ⟨_, rfl, _, rfl, y, y, pos, pos, mem, mem, rfl, sy.same f8, sy.same f8, fun H9 f9 => ?_⟩
      have f9 := f8.trans f9
      refine ⟨_, rfl, _, rfl, by show 0 ≤ sizeLine; decide, fun u nu => ⟨by show 2 ≤ sizeLine; decide, fun u2 nu2 => ?_⟩⟩
      have f10 := (f9.trans (same_upd nu (o := .tup []))).trans (same_upd nu2 (o := .tup [.ref pl, .ref u]))
      refine ⟨y, u2, pos, pos, mem, [], rfl, sy.same f10, ⟨pl, u, [], upd_same, f10 _ _ hpl, (same_upd nu2) _ _ upd_same, ⟨rfl, fun i _ _ h => by simp at h⟩, by simp⟩, fun H11 f11 => ?_⟩
      have f11 := f10.trans f11
      refine ⟨by show 4 ≤ sizeLine; decide, fun L nL => ?_⟩
      have f12 := f11.trans (same_upd nL (o := .lst ([covB pos mem pos2 mem2, covB pos2 mem2 pos mem, covB pos mem pos mem, covB pos mem pos []].map V.bl)))
      exact ⟨L, rfl, f12 _ _ hD, sy.same f12, sz.same f12, upd_same⟩
    rintro σ H7 ⟨L, rfl, hD, sy, sz, hL⟩
    refine ⟨fun σ H8 => ∃ v9, σ = [some (.ref x), some (.ref p), some (.int (n : Int)), some (.ref pl), some (.ref D), some (.ref y), some (.ref z), v7, some (.ref L), v9, none, none] ∧ H8 = H7, ?_, ?_⟩
    · refine ⟨_, rfl, L, rfl, ⟨_, lst_of hL⟩, for_list (K := K) (a := L) (xs := [covB pos mem pos2 mem2, covB pos2 mem2 pos mem, covB pos mem pos mem, covB pos mem pos []].map V.bl) (fun i σ H8 => ∃ v9, σ = [some (.ref x), some (.ref p), some (.int (n : Int)), some (.ref pl), some (.ref D), some (.ref y), some (.ref z), v7, some (.ref L), v9, none, none] ∧ H8 = H7) ⟨_, rfl, rfl⟩ (fun i σ H8 _ ⟨_, _, e⟩ => by subst e; exact lst_of hL) ?_ (fun σ H8 h => h)⟩
      rintro i v σ H8 hi ⟨v9, rfl, rfl⟩
      obtain ⟨b, rfl⟩ : ∃ b, v = .bl b := by
        obtain ⟨b, _, e⟩ := List.mem_map.mp (List.mem_of_getElem? hi)
        exact ⟨b, e.symm⟩
      exact ⟨_, rfl, _, .ty "bool", _, _, true, rfl, .ty _, .base (.bl _), kit_bool, _, rfl, iteF ⟨_, rfl, rfl⟩⟩
    rintro σ H8 ⟨v9, rfl, rfl⟩
    refine ⟨fun σ H9 => ∃ M, σ = [some (.ref x), some (.ref p), some (.int (n : Int)), some (.ref pl), some (.ref D), some (.ref y), some (.ref z), v7, some (.ref L), v9, some (.ref M), none] ∧ H9 L = some (.lst ([covB pos mem pos2 mem2, covB pos2 mem2 pos mem, covB pos mem pos mem, covB pos mem pos []].map V.bl)) ∧ H9 M = some (.lst ([covB pos mem pos2 mem2, covB pos2 mem2 pos mem, covB pos mem pos mem, covB pos mem pos []].map V.bl)), ?_, ?_⟩
    · refine ⟨_, rfl, _, rfl, y, z, pos, pos2, mem, mem2, rfl, sy, sz, fun H7 f7 => ?_⟩
      refine ⟨_, rfl, _, rfl, z, y, pos2, pos, mem2, mem, rfl, sz.same f7, sy.same f7, fun H8 f8 => ?_⟩
      have f8 := f7.trans f8
      refine ⟨_, rfl, _, .inl ⟨_, lst_of (f8 _ _ hD), rfl⟩, ?_⟩
      refine ⟨by show 4 ≤ sizeLine; decide, fun M nM => ?_⟩
      refine ⟨M, rfl, (f8.trans (same_upd nM)) _ _ hL, ?_⟩
      rw [upd_same, covB_self, covB_nil]
      have e : (cs.map V.ref).isEmpty = mem.isEmpty := by
        have := he.1
        cases cs <;> cases mem <;> first | rfl | simp at this
      rw [e]
      cases mem <;> rfl
    rintro σ H9 ⟨M, rfl, hL, hM⟩
    refine ⟨_, rfl, _, rfl, eqD_bls (lst_of hL) (lst_of hM) (k _)⟩
end
theorem all_mk {l : PySem.W.OpenLaw} {w : World} {K : PySem.W.Frag} {h : Heap} {mg : Str → Option Value} {fa f_covers f_l_draw f_l_memory f_l_bent f_l_due f_law : Addr} (X : K.In h) (G : h.Ns mainGlobals mg) (hfa : mg "law" = some (.ref fa))
    {od_covers an_covers od_l_draw an_l_draw od_l_memory an_l_memory od_l_bent an_l_bent od_l_due an_l_due od_law an_law : Option Addr}
    {sl_covers sl_l_draw sl_l_memory sl_l_bent sl_l_due sl_law : Array (Option Value)}
    {oc_covers kV_covers dc_covers pm_covers cd_covers ct_covers oc_l_draw kV_l_draw dc_l_draw pm_l_draw cd_l_draw ct_l_draw oc_l_memory kV_l_memory dc_l_memory pm_l_memory cd_l_memory ct_l_memory oc_l_bent kV_l_bent dc_l_bent pm_l_bent cd_l_bent ct_l_bent oc_l_due kV_l_due dc_l_due pm_l_due cd_l_due ct_l_due oc_law kV_law dc_law pm_law cd_law ct_law : Value}
    (h_a_covers : PySem.W.nsIn K mainGlobals "covers" = some (some (.ref f_covers)))
    (h_l_covers : K.lookup f_covers = some ⟨oc_covers, od_covers, .func (PySem.W.fnOf "covers" "covers" (defArgs s_covers) (defBody s_covers) (defScope s_covers) .none kV_covers dc_covers pm_covers an_covers cd_covers ct_covers), sl_covers⟩)
    (h_c_covers : PySem.W.codeIn K cd_covers "covers" = true)
    (h_k_covers : PySem.W.keepIn K (.ref f_covers) = true)
    (h_a_l_draw : PySem.W.nsIn K mainGlobals "_law_draw" = some (some (.ref f_l_draw)))
    (h_l_l_draw : K.lookup f_l_draw = some ⟨oc_l_draw, od_l_draw, .func (PySem.W.fnOf "_law_draw" "_law_draw" (defArgs s_l_draw) (defBody s_l_draw) (defScope s_l_draw) .none kV_l_draw dc_l_draw pm_l_draw an_l_draw cd_l_draw ct_l_draw), sl_l_draw⟩)
    (h_c_l_draw : PySem.W.codeIn K cd_l_draw "_law_draw" = true)
    (h_k_l_draw : PySem.W.keepIn K (.ref f_l_draw) = true)
    (h_a_l_memory : PySem.W.nsIn K mainGlobals "_law_memory" = some (some (.ref f_l_memory)))
    (h_l_l_memory : K.lookup f_l_memory = some ⟨oc_l_memory, od_l_memory, .func (PySem.W.fnOf "_law_memory" "_law_memory" (defArgs s_l_memory) (defBody s_l_memory) (defScope s_l_memory) .none kV_l_memory dc_l_memory pm_l_memory an_l_memory cd_l_memory ct_l_memory), sl_l_memory⟩)
    (h_c_l_memory : PySem.W.codeIn K cd_l_memory "_law_memory" = true)
    (h_k_l_memory : PySem.W.keepIn K (.ref f_l_memory) = true)
    (h_a_l_bent : PySem.W.nsIn K mainGlobals "_law_bent" = some (some (.ref f_l_bent)))
    (h_l_l_bent : K.lookup f_l_bent = some ⟨oc_l_bent, od_l_bent, .func (PySem.W.fnOf "_law_bent" "_law_bent" (defArgs s_l_bent) (defBody s_l_bent) (defScope s_l_bent) .none kV_l_bent dc_l_bent pm_l_bent an_l_bent cd_l_bent ct_l_bent), sl_l_bent⟩)
    (h_c_l_bent : PySem.W.codeIn K cd_l_bent "_law_bent" = true)
    (h_k_l_bent : PySem.W.keepIn K (.ref f_l_bent) = true)
    (h_a_l_due : PySem.W.nsIn K mainGlobals "_law_due" = some (some (.ref f_l_due)))
    (h_l_l_due : K.lookup f_l_due = some ⟨oc_l_due, od_l_due, .func (PySem.W.fnOf "_law_due" "_law_due" (defArgs s_l_due) (defBody s_l_due) (defScope s_l_due) .none kV_l_due dc_l_due pm_l_due an_l_due cd_l_due ct_l_due), sl_l_due⟩)
    (h_c_l_due : PySem.W.codeIn K cd_l_due "_law_due" = true)
    (h_k_l_due : PySem.W.keepIn K (.ref f_l_due) = true)
    (h_a_law : PySem.W.nsIn K mainGlobals "law" = some (some (.ref f_law)))
    (h_l_law : K.lookup f_law = some ⟨oc_law, od_law, .func (PySem.W.fnOf "law" "law" (defArgs s_law) (defBody s_law) (defScope s_law) .none kV_law dc_law pm_law an_law cd_law ct_law), sl_law⟩)
    (h_c_law : PySem.W.codeIn K cd_law "law" = true)
    (h_k_law : PySem.W.keepIn K (.ref f_law) = true)
    (h_z_all : PySem.W.nsIn K mainGlobals "all" = some none)
    (h_z_bool : PySem.W.nsIn K mainGlobals "bool" = some none)
    (h_z_int : PySem.W.nsIn K mainGlobals "int" = some none)
    (h_z_isinstance : PySem.W.nsIn K mainGlobals "isinstance" = some none)
    (h_z_len : PySem.W.nsIn K mainGlobals "len" = some none)
    (h_z_list : PySem.W.nsIn K mainGlobals "list" = some none)
    (h_z_range : PySem.W.nsIn K mainGlobals "range" = some none)
    (h_z_tuple : PySem.W.nsIn K mainGlobals "tuple" = some none) :
    ∃ fd : FuncData, (∀ (s : Shared) (v : Value), BindsTo s fd ⟨[v], []⟩ [("_law_script", v)]) ∧ ∀ base : Heap, K.In base → base.Ns mainGlobals mg → FnOk l.prog w K mg base CX0 3 fa fd ["_law_script"] (sp_law K) := by
  have e := hfa.symm.trans (PySem.W.mg_of X G h_a_law)
  cases e
  have T : Txt K mg (Ad.mk f_covers (PySem.W.fnOf "covers" "covers" (defArgs s_covers) (defBody s_covers) (defScope s_covers) .none kV_covers dc_covers pm_covers an_covers cd_covers ct_covers) f_l_draw (PySem.W.fnOf "_law_draw" "_law_draw" (defArgs s_l_draw) (defBody s_l_draw) (defScope s_l_draw) .none kV_l_draw dc_l_draw pm_l_draw an_l_draw cd_l_draw ct_l_draw) f_l_memory (PySem.W.fnOf "_law_memory" "_law_memory" (defArgs s_l_memory) (defBody s_l_memory) (defScope s_l_memory) .none kV_l_memory dc_l_memory pm_l_memory an_l_memory cd_l_memory ct_l_memory) f_l_bent (PySem.W.fnOf "_law_bent" "_law_bent" (defArgs s_l_bent) (defBody s_l_bent) (defScope s_l_bent) .none kV_l_bent dc_l_bent pm_l_bent an_l_bent cd_l_bent ct_l_bent) f_l_due (PySem.W.fnOf "_law_due" "_law_due" (defArgs s_l_due) (defBody s_l_due) (defScope s_l_due) .none kV_l_due dc_l_due pm_l_due an_l_due cd_l_due ct_l_due) fa (PySem.W.fnOf "law" "law" (defArgs s_law) (defBody s_law) (defScope s_law) .none kV_law dc_law pm_law an_law cd_law ct_law)) :=
    Txt.mk (fun_mk h_l_covers h_c_covers h_k_covers) ((fun_mk (st := s_covers) h_l_covers h_c_covers h_k_covers).binds (ps := P_covers) fun _ _ _ _ _ _ us hl => match us, hl with | [_, _], _ => rfl) (h_k_covers) (PySem.W.mg_of X G h_a_covers) (fun_mk h_l_l_draw h_c_l_draw h_k_l_draw) ((fun_mk (st := s_l_draw) h_l_l_draw h_c_l_draw h_k_l_draw).binds (ps := P_l_draw) fun _ _ _ _ _ _ us hl => match us, hl with | [_, _], _ => rfl) (h_k_l_draw) (PySem.W.mg_of X G h_a_l_draw) (fun_mk h_l_l_memory h_c_l_memory h_k_l_memory) ((fun_mk (st := s_l_memory) h_l_l_memory h_c_l_memory h_k_l_memory).binds (ps := P_l_memory) fun _ _ _ _ _ _ us hl => match us, hl with | [_, _], _ => rfl) (h_k_l_memory) (PySem.W.mg_of X G h_a_l_memory) (fun_mk h_l_l_bent h_c_l_bent h_k_l_bent) ((fun_mk (st := s_l_bent) h_l_l_bent h_c_l_bent h_k_l_bent).binds (ps := P_l_bent) fun _ _ _ _ _ _ us hl => match us, hl with | [_, _, _], _ => rfl) (h_k_l_bent) (PySem.W.mg_of X G h_a_l_bent) (fun_mk h_l_l_due h_c_l_due h_k_l_due) ((fun_mk (st := s_l_due) h_l_l_due h_c_l_due h_k_l_due).binds (ps := P_l_due) fun _ _ _ _ _ _ us hl => match us, hl with | [_, _], _ => rfl) (h_k_l_due) (PySem.W.mg_of X G h_a_l_due) (fun_mk h_l_law h_c_law h_k_law) ((fun_mk (st := s_law) h_l_law h_c_law h_k_law).binds (ps := P_law) fun _ _ _ _ _ _ us hl => match us, hl with | [_], _ => rfl) (h_k_law) (PySem.W.mg_of X G h_a_law) (PySem.W.mg_none_of X G h_z_all) (PySem.W.mg_none_of X G h_z_bool) (PySem.W.mg_none_of X G h_z_int) (PySem.W.mg_none_of X G h_z_isinstance) (PySem.W.mg_none_of X G h_z_len) (PySem.W.mg_none_of X G h_z_list) (PySem.W.mg_none_of X G h_z_range) (PySem.W.mg_none_of X G h_z_tuple)
  exact ⟨_, fun s v => .of_eq rfl, fun base _ _ => ok_law T⟩
theorem walk {l : PySem.W.OpenLaw} {q : Program} {loose : List Str} {XP : (Str → Option Value) → Heap → Prop} {YP : World → Heap → Prop} {d : DefRec} {K : Params → PySem.W.Frag} (hn : l.most = some 63) (hdf : d.params.defaults = [])
    (hY : ∀ (w : World) (h : Heap), YP w h → (K w.params).In h)
    (F : ∀ (w : World) (mg : Str → Option Value) (fa : Addr) (h : Heap), (K w.params).In h → h.Ns mainGlobals mg → mg d.name = some (.ref fa) →
      ∃ fd : FuncData, (∀ (s : Shared) (u : Value), BindsTo s fd ⟨[u], []⟩ [("_law_script", u)]) ∧ ∀ base : Heap, (K w.params).In base → base.Ns mainGlobals mg → FnOk l.prog w (K w.params) mg base CX0 3 fa fd ["_law_script"] (sp_law (K w.params))) :
    PySem.W.WalkO q loose XP YP l.row.toRowW d [] (fun f vs => PySem.call f vs) :=
  L2.walk_of (n := 63) (k := 3) (x := "_law_script") (CX := fun _ => CX0) (sp := fun w => sp_law (K w.params)) hn (by decide) hdf ⟨rfl, by decide, by decide⟩ hY F (fun _ _ a ns hl hO hS => ⟨a, ns, rfl, scr_of hO hS, hl, fun _ => rfl⟩) fun _ _ _ _ _ z => z
end K23

open PySem PySem.W PyProof.Rows in
set_option maxRecDepth 100000 in
set_option maxHeartbeats 0 in
theorem PySem.Challenge.cw_steppedtests_k23_covering_states_holds : PySem.Challenge.rw_steppedtests_k23_covering_states.Holds := by
  w_on; o_law; k_head; (case hw => w_witness2)
  k_fill
  refine K23.walk (l := PySem.Challenge.rw_steppedtests_k23_covering_states) rfl rfl (fun w h Y => PySem.W.kIn_of Y) ?F
  case F =>
    intro w mg fa h KX G hmg
    refine' K23.all_mk KX G hmg ?h_a_covers ?h_l_covers ?h_c_covers ?h_k_covers ?h_a_l_draw ?h_l_l_draw ?h_c_l_draw ?h_k_l_draw ?h_a_l_memory ?h_l_l_memory ?h_c_l_memory ?h_k_l_memory ?h_a_l_bent ?h_l_l_bent ?h_c_l_bent ?h_k_l_bent ?h_a_l_due ?h_l_l_due ?h_c_l_due ?h_k_l_due ?h_a_law ?h_l_law ?h_c_law ?h_k_law ?h_z_all ?h_z_bool ?h_z_int ?h_z_isinstance ?h_z_len ?h_z_list ?h_z_range ?h_z_tuple
    (case h_a_covers => k_is)
    (case h_l_covers => k_is)
    (case h_c_covers => k_is)
    (case h_k_covers => k_is)
    (case h_a_l_draw => k_is)
    (case h_l_l_draw => k_is)
    (case h_c_l_draw => k_is)
    (case h_k_l_draw => k_is)
    (case h_a_l_memory => k_is)
    (case h_l_l_memory => k_is)
    (case h_c_l_memory => k_is)
    (case h_k_l_memory => k_is)
    (case h_a_l_bent => k_is)
    (case h_l_l_bent => k_is)
    (case h_c_l_bent => k_is)
    (case h_k_l_bent => k_is)
    (case h_a_l_due => k_is)
    (case h_l_l_due => k_is)
    (case h_c_l_due => k_is)
    (case h_k_l_due => k_is)
    (case h_a_law => k_is)
    (case h_l_law => k_is)
    (case h_c_law => k_is)
    (case h_k_law => k_is)
    (case h_z_all => k_is)
    (case h_z_bool => k_is)
    (case h_z_int => k_is)
    (case h_z_isinstance => k_is)
    (case h_z_len => k_is)
    (case h_z_list => k_is)
    (case h_z_range => k_is)
    (case h_z_tuple => k_is)
