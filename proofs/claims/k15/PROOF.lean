import PyProof.Rows.All
import Wide.All
import OpenK.AllK
import Wide.FinOn
import HandS.ForMost
import HandS.ForExc
import HandS.OwnEq
import HandS.Wide
import HandS.SetFor
import HandS.Strs
import HandS.IsInst
import HandS.TupAny
import HandS.Style
import HandS.Codes
import HandS.Flow
import HandS.Evl
import HandS.Conv
import KE.KEqDeep
import PySem.Challenge.RW_steppedtests_k15_whole_sets_of_questions
set_option Elab.async false
set_option linter.all false
set_option maxRecDepth 100000
set_option maxHeartbeats 4000000
namespace L2
open PySem PySem.Spec PyProof.Rows
/-! ## own special methods of a class: | & - by __or__ .., <= == by __le__ .., in by __contains__, len by __len__ -/
section
variable {X : Cx} {n : Nat} {CX : CXT} {C f : Addr} {fd : FuncData} {ps : List Str} {sp : Sp} {E : XK} {pins : List (Addr × Obj)} {σ : St} {H : Hp} {s : Shared}
theorem run_own {A : Around} {vs : List V} {us : List Value} {Q : VK} (F : FnOk X.prog X.w X.K X.mg X.base CX n f fd ps sp) (sb : Sub X n A) (hb : Binds X.K fd ps []) (hx : Passes CX X E)
    (I : Inv X pins σ H s) (r : Vals vs us) (h : sp vs H Q E) : wpAny (model X.prog X.w) A (call (.ref f) us) (EP X pins σ Q) X.xe s := by
  have e0 : Env0 X.prog X.w X.K X.mg X.base A X.stack s H := by
    have e := I.env0
    exact ⟨by rw [sb.fr]; exact e.frames, e.mod, e.bs, e.bsz, e.funs, e.frf, e.hok, e.bare⟩
  have hl := F.len _ _ _ _ h
  have hl2 : us.length = ps.length := by rw [← hl, r.length]
  refine wpAny_call (codeAny_mono (F.run A X.stack s H ⟨us, []⟩ us vs Q E sb.room e0 (by
    have := hb s us I.kIn (by simpa using hl2)
    simpa using this) r h) fun r' s' hq => ?_)
  cases r' with
  | error e => exact hx pins σ H s e s' I hq
  | ok fl =>
    cases fl with
    | ret w => exact I.after hq
    | next => exact False.elim hq
    | brk => exact False.elim hq
    | cont => exact False.elim hq
/-- a value of the layer is never NotImplemented -/
theorem back_ep {u : Value} {s' : Shared} {Q : VK} (h : EP X pins σ Q u s') : PySem.W.CmpBack (EP X pins σ Q) u s' := by
  obtain ⟨v, H', I', r, q⟩ := id h
  cases v with
  | non => cases r; exact h
  | bl b => cases r; exact h
  | int i => obtain ⟨t, rfl⟩ := r; exact h
  | str x => obtain ⟨t, rfl⟩ := r; exact h
  | byt x => obtain ⟨t, rfl⟩ := r; exact h
  | flt x => obtain ⟨t, rfl⟩ := r; exact h
  | ref a => cases r; exact h
  | ty m => cases r; exact h
def rOwn (C : Addr) (sp : Sp) (E : XK) : R2 := fun x y H Q => ∃ a b dx dy fs gs, x = .ref a ∧ y = .ref b ∧ H a = some (.ins C dx fs) ∧ H b = some (.ins C dy gs) ∧ sp [.ref a, .ref b] H Q E
theorem op_own {op : Operator} (F : FnOk X.prog X.w X.K X.mg X.base CX n f fd ps sp) (hr : Room n X.A) (hs : PySem.W.findIn X.K (.ref C) (PySem.dunder op.info.2) = some (some (.ref f))) (hf : PySem.W.isFn X.K (.ref f) = true)
    (hc : PySem.W.selfFirst X.K C = true) (hb : Binds X.K fd ps []) (hx : Passes CX X E) : OpR X (binaryOp op) (rOwn C sp E) := by
  intro pins s σ H x y v u Q I rx ry h
  obtain ⟨a, b, dx, dy, fs, gs, rfl, rfl, ha, hb', h⟩ := h
  cases rx
  cases ry
  obtain ⟨mA, J, _⟩ := ins_get I.hok ha
  obtain ⟨mB, J', _⟩ := ins_get I.hok hb'
  obtain ⟨od, J, _⟩ := J.look
  obtain ⟨od', J', _⟩ := J'.look
  obtain ⟨m, hF⟩ := I.fr
  refine PySem.W.binop_K hF I.ok.mod.kin J J'.type hc hs hf ?_
  exact thn (run_own (vs := [.ref a, .ref b]) F ⟨hr, rfl⟩ hb hx I (.cons rfl (.cons rfl .nil)) h) fun u s' q => back_ep q
theorem cmp_own {op : CmpOp} (F : FnOk X.prog X.w X.K X.mg X.base CX n f fd ps sp) (hr : Room n X.A) (hs : PySem.W.findIn X.K (.ref C) (PySem.cmpInfo op).2.1 = some (some (.ref f))) (hf : PySem.W.isFn X.K (.ref f) = true)
    (hb : Binds X.K fd ps []) (hx : Passes CX X E) : OpR X (richCompare op) (rOwn C sp E) := by
  intro pins s σ H x y v u Q I rx ry h
  obtain ⟨a, b, dx, dy, fs, gs, rfl, rfl, ha, hb', h⟩ := h
  cases rx
  cases ry
  obtain ⟨mA, J, _⟩ := ins_get I.hok ha
  obtain ⟨mB, J', _⟩ := ins_get I.hok hb'
  obtain ⟨od, J, _⟩ := J.look
  obtain ⟨od', J', _⟩ := J'.look
  obtain ⟨m, hF⟩ := I.fr
  refine PySem.W.cmp_K hr.units0 hF I.ok.mod.kin J J'.type (by simp [PySem.W.notFirst]) hs hf ?_
  exact thn (run_own (vs := [.ref a, .ref b]) F ⟨hr, rfl⟩ hb hx I (.cons rfl (.cons rfl .nil)) h) fun u s' q => back_ep q
def rOwnIn (C : Addr) (sp : Sp) (E : XK) (neg : Bool) : R2 := fun x y H Q => ∃ b dy gs, y = .ref b ∧ H b = some (.ins C dy gs) ∧ sp [.ref b, x] H (fun v H' => ∃ k, v = .bl k ∧ Q (.bl (if neg then !k else k)) H') E
theorem in_own (F : FnOk X.prog X.w X.K X.mg X.base CX n f fd ps sp) (hr : Room n X.A) (hs : PySem.W.findIn X.K (.ref C) "__contains__" = some (some (.ref f))) (hf : PySem.W.isFn X.K (.ref f) = true)
    (hb : Binds X.K fd ps []) (hx : Passes CX X E) : OpR X (compareOp .In) (rOwnIn C sp E false) := by
  intro pins s σ H x y v u Q I rx ry h
  obtain ⟨b, dy, gs, rfl, hb', h⟩ := h
  cases ry
  obtain ⟨mB, J', _⟩ := ins_get I.hok hb'
  obtain ⟨od', J', _⟩ := J'.look
  obtain ⟨m, hF⟩ := I.fr
  refine PySem.W.in_K hF I.ok.mod.kin J' hs hf ?_
  refine thn (run_own (vs := [.ref b, x]) F ⟨hr, rfl⟩ hb hx I (.cons rfl (.cons rx .nil)) h) fun u s' q => ?_
  obtain ⟨z, H', I', rz, k, rfl, q⟩ := q
  cases rz
  exact wpAny_truthy_bool ⟨.bl k, H', I', rfl, q⟩
theorem notIn_own (F : FnOk X.prog X.w X.K X.mg X.base CX n f fd ps sp) (hr : Room n X.A) (hs : PySem.W.findIn X.K (.ref C) "__contains__" = some (some (.ref f))) (hf : PySem.W.isFn X.K (.ref f) = true)
    (hb : Binds X.K fd ps []) (hx : Passes CX X E) : OpR X (compareOp .NotIn) (rOwnIn C sp E true) := by
  intro pins s σ H x y v u Q I rx ry h
  obtain ⟨b, dy, gs, rfl, hb', h⟩ := h
  cases ry
  obtain ⟨mB, J', _⟩ := ins_get I.hok hb'
  obtain ⟨od', J', _⟩ := J'.look
  obtain ⟨m, hF⟩ := I.fr
  refine PySem.W.notIn_K hF I.ok.mod.kin J' hs hf ?_
  refine thn (run_own (vs := [.ref b, x]) F ⟨hr, rfl⟩ hb hx I (.cons rfl (.cons rx .nil)) h) fun u s' q => ?_
  obtain ⟨z, H', I', rz, k, rfl, q⟩ := q
  cases rz
  exact wpAny_truthy_bool ⟨.bl (!k), H', I', rfl, q⟩
def rOwnLen (C : Addr) (sp : Sp) (E : XK) : List V → Hp → VK → Prop := fun xs H Q => ∃ b dy gs, xs = [.ref b] ∧ H b = some (.ins C dy gs) ∧ sp [.ref b] H (fun v H' => ∃ k : Int, v = .int k ∧ 0 ≤ k ∧ k < 2 ^ 63 ∧ Q (.int k) H') E
theorem len_own (F : FnOk X.prog X.w X.K X.mg X.base CX n f fd ps sp) (hr : Room (n + 1) X.A) (hs : PySem.W.findIn X.K (.ref C) "__len__" = some (some (.ref f))) (hf : PySem.W.isFn X.K (.ref f) = true)
    (hb : Binds X.K fd ps []) (hx : Passes CX X E) : CallR X (.builtin "len") (rOwnLen C sp E) := by
  intro pins s σ H xs us Q I r h
  obtain ⟨b, dy, gs, rfl, hb', h⟩ := h
  rw [Vals.ref1 r]
  obtain ⟨mB, J', _⟩ := ins_get I.hok hb'
  obtain ⟨od', J', _⟩ := J'.look
  obtain ⟨m, hF⟩ := I.fr
  refine PySem.W.len_K hF I.ok.mod.kin J' hs hf ?_
  have sb : Sub X (n + 1) X.A := ⟨hr, rfl⟩
  refine thn (run_own (vs := [.ref b]) F sb.in1 hb hx I (.cons rfl .nil) h) fun u s' q => ?_
  obtain ⟨z, H', I', rz, k, rfl, h0, h1, q⟩ := q
  obtain ⟨t, rfl⟩ := rz
  exact ⟨⟨h0, h1⟩, .int k, H', I'.tok _, ⟨_, rfl⟩, q⟩
/-- web[i] by an own __getitem__ -/
def rOwnIx (C : Addr) (sp : Sp) (E : XK) : R2 := fun x y H Q => ∃ a dx fs, x = .ref a ∧ H a = some (.ins C dx fs) ∧ sp [.ref a, y] H Q E
theorem pe_ownIx {a b : Expr} {ta tb : TE} {pos : Pos} (F : FnOk X.prog X.w X.K X.mg X.base CX n f fd ps sp) (hr : Room (n + 1) X.A) (hs : PySem.W.findIn X.K (.ref C) "__getitem__" = some (some (.ref f))) (hfn : PySem.W.fnIn X.K f = true) (hf : PySem.W.isFn X.K (.ref f) = true)
    (hb : Binds X.K fd ps []) (hx : Passes CX X E) (ha : PE X a ta) (hb' : PE X b tb)
    (hsl : ∀ x i, subscripted b true (.ref x) i = runValue (.builtin "lifetime.subscript" ⟨[.ref x, i], []⟩) := by intro _ _; with_unfolding_all rfl) : PE X (.Subscript a b pos) (tOp (rOwnIx C sp E) ta tb) := by
  refine ⟨fun pins s σ H Q I h => ?_⟩
  refine Subscript_ (binT ha hb' I h fun v u s2 x y H2 I2 rx ry q => ?_)
  obtain ⟨c, dx, fs, rfl, hc, q⟩ := q
  cases rx
  obtain ⟨mB, J', _⟩ := ins_get I2.hok hc
  obtain ⟨od', J', _⟩ := J'.look
  obtain ⟨m, hF⟩ := I2.fr
  have sb : Sub X (n + 1) X.A := ⟨hr, rfl⟩
  exact PySem.W.sub_K hF I2.ok.mod.kin J' hs hfn hf (run_own (vs := [.ref c, y]) F sb.in1 hb hx I2 (.cons rfl (.cons ry .nil)) q) (hsl _ _)
/-- set(t), t a tuple of ints -/
def rSetOf (K : PySem.W.Frag) (w : World) : List V → Hp → VK → Prop := fun xs H Q => ∃ (l : Addr) (ns : List Int), xs = [V.ref l] ∧ SqT K H l (ns.map V.int) ∧ ns.length ≤ 1000 ∧
  ∀ p c, H p = none → c ≤ ns.length → (∀ L : List Int, (∀ k ∈ ns, k ∈ L) → c ≤ L.length) → Q (.ref p) (upd H p (SetO w p (fun j => decide (j ∈ ns)) c))
theorem nodup_le : ∀ (l D : List Int), l.Nodup → (∀ x ∈ l, x ∈ D) → l.length ≤ D.length
  | [], _, _, _ => Nat.zero_le _
  | x :: r, D, hn, h => by
    have hx : x ∈ D := h x List.mem_cons_self
    obtain ⟨h1, h2⟩ := List.nodup_cons.mp hn
    have ih := nodup_le r (D.erase x) h2 fun y hy => by
      have hne : y ≠ x := fun e => h1 (e ▸ hy)
      exact (List.mem_erase_of_ne hne).mpr (h y (List.mem_cons_of_mem _ hy))
    rw [List.length_erase_of_mem hx] at ih
    have : 0 < D.length := List.length_pos_of_mem hx
    rw [List.length_cons]
    omega
theorem cr_setOf (hc : X.calm = true) : CallR X (.type "set") (rSetOf X.K X.w) := by
  intro pins s σ H xs us Q I r h
  obtain ⟨l, ns, rfl, hq, hl, q⟩ := h
  rw [Vals.ref1 r]
  obtain ⟨its, rv, pt, hz⟩ := I.tuple hq
  have hi : IntsAre its.toArray.toList ns := by simpa using ints_of_vals rv
  refine call_set_tupI ns (I.ok.hd hc) (show s.heap.IsTuple l its.toArray from pt) hi (by unfold scanBound; omega) fun h' tk c R hcn k => ?_
  have hn : H s.heap.objs.size = none := I.hok.fresh (Nat.le_refl _)
  refine ⟨.ref s.heap.objs.size, upd H s.heap.objs.size (SetO X.w s.heap.objs.size (fun j => decide (j ∈ ns)) c), I.laid (t' := tk) k (Nat.le_refl _) (setO_new R), rfl, q _ c hn hcn fun L hL => ?_⟩
  obtain ⟨o, es, ep, t, ho, hex, hdt, g, nd, hm2, hb, hf, hn2, hr, hl2⟩ := R
  have z := nodup_le _ L nd fun x hx => hL x (of_decide_eq_true ((hm2 x).mpr hx))
  rw [List.length_map, Array.length_toList, hn2] at z
  exact z
end
end L2

namespace L2
open PySem PySem.Spec PyProof.Rows
/-! ## heaps that keep all but the pool -/
def isPool (o : HO) : Prop := ∃ (a : Addr) (c i b s : Int), o = .lst [.ref a, .int c, .int i, .int b, .int s]
def Gd (H H' : Hp) : Prop := (∀ b o, ¬ isPool o → H b = some o → H' b = some o) ∧ ∀ b o, isPool o → H b = some o → ∃ o', isPool o' ∧ H' b = some o'
theorem Gd.refl (H : Hp) : Gd H H := ⟨fun _ _ _ h => h, fun _ o n h => ⟨o, n, h⟩⟩
theorem Gd.trans {H H1 H2 : Hp} (a : Gd H H1) (b : Gd H1 H2) : Gd H H2 := ⟨fun x o n h => b.1 x o n (a.1 x o n h), fun x o n h => let ⟨o', n', h'⟩ := a.2 x o n h; b.2 x o' n' h'⟩
theorem Same.gd {H H' : Hp} (h : Same H H') : Gd H H' := ⟨fun b o _ e => h b o e, fun b o n e => ⟨o, n, h b o e⟩⟩
theorem fresh_gd {H H' : Hp} {p : Addr} (e : Gd H H') (h : H' p = none) : H p = none := by
  cases q : H p with
  | none => rfl
  | some o =>
    exfalso
    by_cases n : isPool o
    · obtain ⟨o', _, h'⟩ := e.2 p o n q
      rw [h] at h'
      cases h'
    · have := e.1 p o n q
      rw [h] at this
      cases this
theorem np_ints (ns : List Int) : ¬ isPool (.lst (ns.map V.int)) := by
  rintro ⟨a, c, i, b, s, h⟩
  cases ns with
  | nil => cases h
  | cons x r => injection h with h; injection h with h _; cases h
theorem np_frz (o : Obj) (u : HO) : ¬ isPool (.frz o u) := by rintro ⟨a, c, i, b, s, h⟩; cases h
theorem np_tup (xs : List V) : ¬ isPool (.tup xs) := by rintro ⟨a, c, i, b, s, h⟩; cases h
theorem np_ins (C dx : Addr) (fs : List (Str × V)) : ¬ isPool (.ins C dx fs) := by rintro ⟨a, c, i, b, s, h⟩; cases h
theorem Gd.seq {K : PySem.W.Frag} {H H' : Hp} {a : Addr} {ns : List Int} (e : Gd H H') (h : SqL K H a (ns.map V.int)) : SqL K H' a (ns.map V.int) := by
  rcases h with (h | ⟨o, h⟩) | h
  · exact .inl (.inl (e.1 _ _ (np_ints ns) h))
  · exact .inl (.inr ⟨o, e.1 _ _ (np_frz _ _) h⟩)
  · exact .inr h
theorem Same.seqT {K : PySem.W.Frag} {H H' : Hp} {a : Addr} {xs : List V} (e : Same H H') (h : SqT K H a xs) : SqT K H' a xs := by
  rcases h with (h | ⟨o, h⟩) | h
  · exact .inl (.inl (e _ _ h))
  · exact .inl (.inr ⟨o, e _ _ h⟩)
  · exact .inr h
theorem same_upd {H : Hp} {p : Addr} {o : HO} (h : H p = none) : Same H (upd H p o) := fun b x e => by
  rw [upd_ne (ne_of_none e h)]
  exact e
/-- a heap made from H' by changing p, which H did not know -/
theorem Same.mut {H H' : Hp} {p : Addr} {o : HO} (e : Same H H') (h : H p = none) : Same H (upd H' p o) := fun a u ha => by
  rw [upd_ne (ne_of_none ha h)]
  exact e a u ha
theorem Gd.mut {H H' : Hp} {p : Addr} {o : HO} (e : Gd H H') (h : H p = none) : Gd H (upd H' p o) := ⟨fun a u n ha => by
  rw [upd_ne (ne_of_none ha h)]
  exact e.1 a u n ha, fun a u n ha => by
  rw [upd_ne (ne_of_none ha h)]
  exact e.2 a u n ha⟩
theorem Gd.upd {H H' : Hp} {p : Addr} {o : HO} (e : Gd H H') (h : H' p = none) : Gd H (upd H' p o) := e.mut (fresh_gd e h)
/-- the script: known to the object, or of the written part -/
def ScrAt (K : PySem.W.Frag) (H : Hp) (a : Addr) (xs : List V) : Prop :=
  (∃ o, H a = some (.frz o (.lst xs))) ∨ ∃ (o : Obj) (its : Array Value) (n : Nat), K.lookup a = some o ∧ o.cls = .type "list" ∧ o.dict = none ∧ o.data = .seq its n ∧ its.size ≤ sizeLine ∧ Vals xs its.toList
theorem ScrAt.seq {K : PySem.W.Frag} {H : Hp} {a : Addr} {xs : List V} (h : ScrAt K H a xs) : SqL K H a xs := h.elim (fun ⟨o, h⟩ => .inl (.inr ⟨o, h⟩)) fun h => .inr h
theorem ScrAt.gd {K : PySem.W.Frag} {H H' : Hp} {a : Addr} {xs : List V} (e : Gd H H') (h : ScrAt K H a xs) : ScrAt K H' a xs := h.elim (fun ⟨o, h⟩ => .inl ⟨o, e.1 _ _ (np_frz _ _) h⟩) fun h => .inr h
theorem ScrAt.mut {K : PySem.W.Frag} {H : Hp} {a D : Addr} {xs ys : List V} {o : HO} (hD : H D = some (.lst ys)) (h : ScrAt K H a xs) : ScrAt K (upd H D o) a xs :=
  h.elim (fun ⟨u, h⟩ => .inl ⟨u, by rw [upd_ne (ne_of h hD (by intro z; cases z))]; exact h⟩) fun h => .inr h
theorem scr_of {K : PySem.W.Frag} {H : Hp} {a : Addr} {xs : List V} (hO : Only H) (h : SqL K H a xs) : ScrAt K H a xs := by
  rcases h with (h | ⟨o, h⟩) | h
  · rcases hO a with z | ⟨o, ys, z⟩
    · rw [h] at z; cases z
    · rw [h] at z; cases z
  · exact .inl ⟨o, h⟩
  · exact .inr h
/-- the pool at p has drawn at most c times -/
def PoolOk (K : PySem.W.Frag) (p : Addr) (c : Nat) (H : Hp) : Prop := ∃ (sa : Addr) (ns : List Int) (c' i b s : Int), ScrAt K H sa (ns.map V.int) ∧ H p = some (.lst [.ref sa, .int c', .int i, .int b, .int s]) ∧ 0 ≤ c' ∧ c' ≤ (c : Int) ∧ 0 ≤ i ∧ i ≤ (ns.length : Int) ∧ 0 ≤ b ∧ 0 ≤ s ∧ s < 2147483629
theorem PoolOk.same {K : PySem.W.Frag} {p : Addr} {c : Nat} {H H' : Hp} (h : PoolOk K p c H) (e : Same H H') : PoolOk K p c H' := by
  obtain ⟨sa, ns, c', i, b, s, h1, h2, h3⟩ := h
  exact ⟨sa, ns, c', i, b, s, h1.gd e.gd, e _ _ h2, h3⟩
theorem PoolOk.mono {K : PySem.W.Frag} {p : Addr} {c d : Nat} {H : Hp} (h : PoolOk K p c H) (e : c ≤ d) : PoolOk K p d H := by
  obtain ⟨sa, ns, c', i, b, s, h1, h2, h3, h4, h5⟩ := h
  exact ⟨sa, ns, c', i, b, s, h1, h2, h3, by omega, h5⟩
/-- the pool is known, so a new address is another one -/
theorem PoolOk.ne {K : PySem.W.Frag} {p q : Addr} {c : Nat} {H : Hp} (h : PoolOk K p c H) (e : H q = none) : p ≠ q := by
  obtain ⟨sa, ns, c', i, b, s, h1, h2, h3⟩ := h
  exact ne_of_none h2 e
theorem PoolOk.upd {K : PySem.W.Frag} {p q : Addr} {c : Nat} {H : Hp} {o : HO} (h : PoolOk K p c H) (e : H q = none) : PoolOk K p c (upd H q o) := h.same (same_upd e)
/-- a list that stands (not the pool's) is changed: the pool stays -/
theorem PoolOk.mut {K : PySem.W.Frag} {p D : Addr} {c : Nat} {H : Hp} {ys : List V} {o : HO} (h : PoolOk K p c H) (hD : H D = some (.lst ys)) (n : ¬ isPool (.lst ys)) : PoolOk K p c (L2.upd H D o) := by
  obtain ⟨sa, ns, c', i, b, s, h1, h2, h3⟩ := h
  refine ⟨sa, ns, c', i, b, s, h1.mut hD, ?_, h3⟩
  rw [upd_ne (fun e => by
    subst e
    rw [h2] at hD
    injection hD with hD
    exact n ⟨sa, c', i, b, s, hD.symm⟩)]
  exact h2
theorem tyes {σ : St} {H : Hp} {A B : Hp → Prop} (h : A H) : tYes σ H fun b H3 => if b = true then A H3 else B H3 := by
  unfold tYes
  dsimp only
  rw [if_pos rfl]
  exact h
def pl (sa : Addr) (c i b s : Int) : HO := .lst [.ref sa, .int c, .int i, .int b, .int s]
theorem pl_pool (sa : Addr) (c i b s : Int) : isPool (pl sa c i b s) := ⟨sa, c, i, b, s, rfl⟩
theorem gd_pool {H : Hp} {p sa sa' : Addr} {c i b s c' i' b' s' : Int} (h : H p = some (pl sa c i b s)) : Gd H (upd H p (pl sa' c' i' b' s')) := ⟨fun x u n e => by
  have hx : x ≠ p := fun z => by
    subst z
    rw [h] at e
    injection e with e
    exact n ⟨sa, c, i, b, s, e.symm⟩
  rw [upd_ne hx]
  exact e, fun x u n e => by
  by_cases hx : x = p
  · subst hx
    exact ⟨_, pl_pool _ _ _ _ _, upd_same⟩
  · exact ⟨u, n, by rw [upd_ne hx]; exact e⟩⟩
def LIM : Nat := 1099511627776
def spDraw (K : PySem.W.Frag) : Sp := fun vs H Q _ => ∃ (p : Addr) (c : Nat) (lim : Int), vs = [.ref p, .int lim] ∧ PoolOk K p c H ∧ c < LIM ∧ 0 < lim ∧ lim < 2 ^ 200 ∧
  ∀ H' r, Gd H H' → PoolOk K p (c + 1) H' → 0 ≤ r → r < lim → Q (.int r) H'
def spPool (K : PySem.W.Frag) : Sp := fun vs H Q _ => ∃ (x : Addr) (ns : List Int), vs = [.ref x] ∧ ScrAt K H x (ns.map V.int) ∧ ∀ p H', H p = none → Same H H' → PoolOk K p 0 H' → Q (.ref p) H'
theorem atI0 {α : Type} {x : α} {r : List α} : atI (x :: r) 0 = some x := atI_nat (j := 0) rfl
theorem atI1 {α : Type} {x y : α} {r : List α} : atI (x :: y :: r) 1 = some y := atI_nat (j := 1) rfl
theorem atI2 {α : Type} {x y z : α} {r : List α} : atI (x :: y :: z :: r) 2 = some z := atI_nat (j := 2) rfl
theorem atI3 {α : Type} {x y z u : α} {r : List α} : atI (x :: y :: z :: u :: r) 3 = some u := atI_nat (j := 3) rfl
theorem atI4 {α : Type} {x y z u v : α} {r : List α} : atI (x :: y :: z :: u :: v :: r) 4 = some v := atI_nat (j := 4) rfl
/-! ## sets of questions by their ascending lists -/
def ask48 : List Int := (List.range 48).map fun i => ((i : Nat) : Int)
def norm (l : List Int) : List Int := ask48.filter fun x => decide (x ∈ l)
theorem mem_ask {x : Int} : x ∈ ask48 ↔ 0 ≤ x ∧ x < 48 := by
  unfold ask48
  rw [List.mem_map]
  constructor
  · rintro ⟨i, h, rfl⟩
    have := List.mem_range.mp h
    omega
  · rintro ⟨h0, h1⟩
    exact ⟨x.toNat, List.mem_range.mpr (by omega), by omega⟩
theorem mem_norm {l : List Int} {x : Int} : x ∈ norm l ↔ (0 ≤ x ∧ x < 48) ∧ x ∈ l := by
  unfold norm
  rw [List.mem_filter, mem_ask, decide_eq_true_eq]
theorem ask_sorted : ask48.Pairwise (· < ·) := by
  unfold ask48
  rw [List.pairwise_map]
  exact List.Pairwise.imp (fun h => by omega) List.pairwise_lt_range
theorem norm_sorted (l : List Int) : (norm l).Pairwise (· < ·) := ask_sorted.sublist List.filter_sublist
theorem norm_len (l : List Int) : (norm l).length ≤ 48 := by
  refine Nat.le_trans (List.length_filter_le _ _) ?_
  unfold ask48
  rw [List.length_map, List.length_range]
  exact Nat.le_refl _
theorem sorted_ext : ∀ {l l' : List Int}, l.Pairwise (· < ·) → l'.Pairwise (· < ·) → (∀ x, x ∈ l ↔ x ∈ l') → l = l'
  | [], [], _, _, _ => rfl
  | [], b :: r, _, _, h => absurd ((h b).mpr List.mem_cons_self) (by simp)
  | a :: r, [], _, _, h => absurd ((h a).mp List.mem_cons_self) (by simp)
  | a :: r, b :: s, h1, h2, h => by
    obtain ⟨ha, hr⟩ := List.pairwise_cons.mp h1
    obtain ⟨hb, hs⟩ := List.pairwise_cons.mp h2
    have e : a = b := by
      rcases List.mem_cons.mp ((h a).mp List.mem_cons_self) with e | e
      · exact e
      · rcases List.mem_cons.mp ((h b).mpr List.mem_cons_self) with e2 | e2
        · exact e2.symm
        · have := hb a e
          have := ha b e2
          omega
    subst e
    have : r = s := sorted_ext hr hs fun x => by
      constructor
      · intro hx
        rcases List.mem_cons.mp ((h x).mp (List.mem_cons_of_mem _ hx)) with e | e
        · have := ha x hx
          omega
        · exact e
      · intro hx
        rcases List.mem_cons.mp ((h x).mpr (List.mem_cons_of_mem _ hx)) with e | e
        · have := hb x hx
          omega
        · exact e
    rw [this]
theorem norm_ext {l l' : List Int} (h : ∀ x, 0 ≤ x → x < 48 → (x ∈ l ↔ x ∈ l')) : norm l = norm l' :=
  sorted_ext (norm_sorted l) (norm_sorted l') fun x => by
    rw [mem_norm, mem_norm]
    constructor
    · rintro ⟨a, b⟩; exact ⟨a, (h x a.1 a.2).mp b⟩
    · rintro ⟨a, b⟩; exact ⟨a, (h x a.1 a.2).mpr b⟩
theorem norm_of_sorted {l l' : List Int} (h : l.Pairwise (· < ·)) (hm : ∀ x, x ∈ l ↔ x ∈ l') (hr : ∀ x ∈ l', 0 ≤ x ∧ x < 48) : l = norm l' :=
  sorted_ext h (norm_sorted l') fun x => by
    rw [hm, mem_norm]
    exact ⟨fun a => ⟨hr x a, a⟩, fun a => a.2⟩
theorem norm_eq_iff {l l' : List Int} : norm l = norm l' ↔ ∀ x, 0 ≤ x → x < 48 → (x ∈ l ↔ x ∈ l') := by
  constructor
  · intro e x h0 h1
    have : x ∈ norm l ↔ x ∈ norm l' := by rw [e]
    rw [mem_norm, mem_norm] at this
    exact ⟨fun a => (this.mp ⟨⟨h0, h1⟩, a⟩).2, fun a => (this.mpr ⟨⟨h0, h1⟩, a⟩).2⟩
  · exact norm_ext
theorem norm_filter (l : List Int) (p : Int → Bool) : (norm l).filter p = norm (l.filter p) := by
  refine sorted_ext ((norm_sorted l).sublist List.filter_sublist) (norm_sorted _) fun x => ?_
  rw [List.mem_filter, mem_norm, mem_norm, List.mem_filter]
  constructor
  · rintro ⟨⟨a, b⟩, c⟩; exact ⟨a, b, c⟩
  · rintro ⟨a, b, c⟩; exact ⟨⟨a, b⟩, c⟩
theorem norm_norm (l : List Int) : norm (norm l) = norm l := norm_ext fun x h0 h1 => by
  rw [mem_norm]
  exact ⟨fun a => a.2, fun a => ⟨⟨h0, h1⟩, a⟩⟩
/-! ## values -/
theorem flat_ints (ns : List Int) : (ns.map V.int).all flatV = true := by
  rw [List.all_eq_true]
  intro x hx
  obtain ⟨i, _, rfl⟩ := List.mem_map.mp hx
  rfl
theorem eqV_int (i j : Int) : eqV (.int i) (.int j) = decide (i = j) := by
  show (i == j) = _
  rw [Bool.eq_iff_iff]
  simp
theorem in_ints (x : Int) (ns : List Int) : inV (.int x) (ns.map V.int) = decide (x ∈ ns) := by
  unfold inV
  rw [Bool.eq_iff_iff, List.any_eq_true, decide_eq_true_eq]
  constructor
  · rintro ⟨y, hy, e⟩
    obtain ⟨i, hi, rfl⟩ := List.mem_map.mp hy
    rw [eqV_int, decide_eq_true_eq] at e
    exact e ▸ hi
  · intro h
    exact ⟨.int x, List.mem_map.mpr ⟨x, h, rfl⟩, by rw [eqV_int, decide_eq_true_eq]⟩
theorem dpAll_ints {K : PySem.W.Frag} {H : Hp} : ∀ ns : List Int, DpAll K H (ns.map V.int) (ns.map PyData.int)
  | [] => .nil
  | n :: r => .cons (.int n) (dpAll_ints r)
theorem canLay_ints : ∀ ns : List Int, PyData.canLayAll0 (ns.map PyData.int) = true
  | [] => by rw [List.map_nil, PyData.canLayAll0]
  | n :: r => by
    rw [List.map_cons, PyData.canLayAll0, canLay_ints r]
    rfl
theorem depth_ints : ∀ ns : List Int, PyData.depthAll (ns.map PyData.int) = 0
  | [] => by rw [List.map_nil, PyData.depthAll]
  | n :: r => by
    rw [List.map_cons, PyData.depthAll, depth_ints r]
    rfl
theorem shT (ns : List Int) : SeqAt.shaped (.tuple (ns.map PyData.int)) = true := by
  simp [SeqAt.shaped, PyData.canLay0, canLay_ints, PyData.depth, depth_ints]
theorem shL (ns : List Int) : SeqAt.shaped (.list (ns.map PyData.int)) = true := by
  simp [SeqAt.shaped, PyData.canLay0, canLay_ints, PyData.depth, depth_ints]
theorem evT (ns ms : List Int) : PyData.eqv (.tuple (ns.map PyData.int)) (.tuple (ms.map PyData.int)) = decide (ns = ms) := by
  rw [PyData.eqv, PySem.W.ked_eqvAll]
theorem evL (ns ms : List Int) : PyData.eqv (.list (ns.map PyData.int)) (.list (ms.map PyData.int)) = decide (ns = ms) := by
  rw [PyData.eqv, PySem.W.ked_eqvAll]
theorem eqD_tup {K : PySem.W.Frag} {H : Hp} {a b : Addr} {ns ms : List Int} {Q : VK} (h1 : SqT K H a (ns.map V.int)) (h2 : SqT K H b (ms.map V.int)) (q : Q (.bl (decide (ns = ms))) H) : rEqD K (.ref a) (.ref b) H Q :=
  ⟨_, _, .tup h1 (dpAll_ints ns), .tup h2 (dpAll_ints ms), shT ns, shT ms, by rw [evT]; exact q⟩
theorem neD_tup {K : PySem.W.Frag} {H : Hp} {a b : Addr} {ns ms : List Int} {Q : VK} (h1 : SqT K H a (ns.map V.int)) (h2 : SqT K H b (ms.map V.int)) (q : Q (.bl (!decide (ns = ms))) H) : rNeD K (.ref a) (.ref b) H Q :=
  ⟨_, _, .tup h1 (dpAll_ints ns), .tup h2 (dpAll_ints ms), shT ns, shT ms, by rw [evT]; exact q⟩
theorem eqD_lst {K : PySem.W.Frag} {H : Hp} {a b : Addr} {ns ms : List Int} {Q : VK} (h1 : SqL K H a (ns.map V.int)) (h2 : SqL K H b (ms.map V.int)) (q : Q (.bl (decide (ns = ms))) H) : rEqD K (.ref a) (.ref b) H Q :=
  ⟨_, _, .lst h1 (dpAll_ints ns), .lst h2 (dpAll_ints ms), shL ns, shL ms, by rw [evL]; exact q⟩
theorem neD_lst {K : PySem.W.Frag} {H : Hp} {a b : Addr} {ns ms : List Int} {Q : VK} (h1 : SqL K H a (ns.map V.int)) (h2 : SqL K H b (ms.map V.int)) (q : Q (.bl (!decide (ns = ms))) H) : rNeD K (.ref a) (.ref b) H Q :=
  ⟨_, _, .lst h1 (dpAll_ints ns), .lst h2 (dpAll_ints ms), shL ns, shL ms, by rw [evL]; exact q⟩
/-! ## pupils -/
/-- at a a pupil whose rights are the ascending list of l -/
def PupAt (C : Addr) (H : Hp) (a : Addr) (l : List Int) : Prop := ∃ dx t, H a = some (.ins C dx [("rights", .ref t)]) ∧ H t = some (.tup ((norm l).map V.int))
theorem PupAt.same {C a : Addr} {H H' : Hp} {l : List Int} (e : Same H H') (h : PupAt C H a l) : PupAt C H' a l := by
  obtain ⟨dx, t, h1, h2⟩ := h
  exact ⟨dx, t, e _ _ h1, e _ _ h2⟩
theorem PupAt.gd {C a : Addr} {H H' : Hp} {l : List Int} (e : Gd H H') (h : PupAt C H a l) : PupAt C H' a l := by
  obtain ⟨dx, t, h1, h2⟩ := h
  exact ⟨dx, t, e.1 _ _ (np_ins _ _ _) h1, e.1 _ _ (np_tup _) h2⟩
theorem PupAt.eq {C a : Addr} {H : Hp} {l l' : List Int} (h : PupAt C H a l) (e : norm l = norm l') : PupAt C H a l' := by
  obtain ⟨dx, t, h1, h2⟩ := h
  exact ⟨dx, t, h1, by rw [← e]; exact h2⟩
/-- questions: each from 0 to 47 -/
def Qn (l : List Int) : Prop := ∀ k ∈ l, 0 ≤ k ∧ k < 48
def SqA (K : PySem.W.Frag) (H : Hp) (q : Addr) (xs : List V) : Prop := SqL K H q xs ∨ SqT K H q xs
def spInit (K : PySem.W.Frag) (C : Addr) : Sp := fun vs H Q _ => ∃ (x dx q : Addr) (l : List Int), vs = [.ref x, .ref q] ∧ H x = some (.ins C dx []) ∧ SqA K H q (l.map V.int) ∧ l.length ≤ 500 ∧ Qn l ∧
  ∀ H' t, H' x = some (.ins C dx [("rights", .ref t)]) → H' t = some (.tup ((norm l).map V.int)) → (∀ b o, b ≠ x → H b = some o → H' b = some o) → Q .non H'
theorem SqA.same {K : PySem.W.Frag} {H H' : Hp} {q : Addr} {xs : List V} (e : Same H H') (h : SqA K H q xs) : SqA K H' q xs := h.elim (fun h => .inl (e.seq h)) fun h => .inr (e.seqT h)
theorem pup_make {K : PySem.W.Frag} {C q : Addr} {H : Hp} {l : List Int} {R : Addr → Hp → Prop} {E : XK} (hq : SqA K H q (l.map V.int)) (hl : l.length ≤ 500) (hn : Qn l) (k : ∀ x H', H x = none → Same H H' → PupAt C H' x l → R x H') :
    ∀ x dx, H x = none → H dx = none → dx ≠ x → spInit K C (.ref x :: ([.ref q] ++ [])) (upd (upd H dx (.own x)) x (.ins C dx [])) (fun v H2 => v = .non ∧ R x H2) E := by
  intro x dx nx ndx ne
  have s0 : Same H (upd (upd H dx (.own x)) x (.ins C dx [])) := (same_upd ndx).mut nx
  refine ⟨x, dx, q, l, rfl, upd_same, hq.same s0, hl, hn, fun H' t h1 h2 h3 => ⟨rfl, k x H' nx (fun b o e => ?_) ⟨dx, t, h1, h2⟩⟩⟩
  exact h3 b o (ne_of_none e nx) (s0 b o e)
def spBin (C : Addr) (f : List Int → List Int → List Int) : Sp := fun vs H Q _ => ∃ (a b : Addr) (p q : List Int), vs = [.ref a, .ref b] ∧ PupAt C H a p ∧ PupAt C H b q ∧ ∀ x H', H x = none → Same H H' → PupAt C H' x (f p q) → Q (.ref x) H'
def spRel (C : Addr) (f : List Int → List Int → Bool) : Sp := fun vs H Q _ => ∃ (a b : Addr) (p q : List Int), vs = [.ref a, .ref b] ∧ PupAt C H a p ∧ PupAt C H b q ∧ ∀ H', Same H H' → Q (.bl (f (norm p) (norm q))) H'
def fOr (p q : List Int) : List Int := p ++ q
def fAnd (p q : List Int) : List Int := p.filter fun x => decide (x ∈ q)
def fSub (p q : List Int) : List Int := p.filter fun x => !decide (x ∈ q)
def fLe (p q : List Int) : Bool := p.all fun x => decide (x ∈ q)
def fEq (p q : List Int) : Bool := decide (p = q)
theorem norm_or (p q : List Int) : norm (norm p ++ norm q) = norm (p ++ q) := norm_ext fun x h0 h1 => by
  simp only [List.mem_append, mem_norm]
  exact ⟨fun h => h.elim (fun a => .inl a.2) fun a => .inr a.2, fun h => h.elim (fun a => .inl ⟨⟨h0, h1⟩, a⟩) fun a => .inr ⟨⟨h0, h1⟩, a⟩⟩
theorem qn_norm (l : List Int) : Qn (norm l) := fun k hk => (mem_norm.mp hk).1
theorem qn_append {l m : List Int} (h1 : Qn l) (h2 : Qn m) : Qn (l ++ m) := fun k hk => (List.mem_append.mp hk).elim (h1 k) (h2 k)
theorem qn_filter {l : List Int} {p : Int → Bool} (h1 : Qn l) : Qn (l.filter p) := fun k hk => h1 k (List.mem_filter.mp hk).1
/-- a comprehension over a list that keeps some of its ints as they are -/
theorem filter_take_succ {l : List Int} {p : Int → Bool} {i : Nat} {x : Int} (h : l[i]? = some x) : (l.take (i + 1)).filter p = (l.take i).filter p ++ (if p x = true then [x] else []) := by
  rw [List.take_add_one, h, List.filter_append]
  show _ ++ List.filter p [x] = _
  rw [List.filter_cons]
  rfl
theorem get_map_int {l : List Int} {i : Nat} {v : V} (h : (l.map V.int)[i]? = some v) : ∃ x, l[i]? = some x ∧ v = .int x := by
  rw [List.getElem?_map] at h
  cases e : l[i]? with
  | none => rw [e] at h; cases h
  | some x => rw [e] at h; exact ⟨x, rfl, (Option.some.inj h).symm⟩
theorem catA_k {K : PySem.W.Frag} {H : Hp} {a b : Addr} {xs ys : List V} {Q : VK} (h1 : SqT K H a xs) (h2 : SqT K H b ys) (hl : xs.length + ys.length ≤ sizeLine) (k : ∀ p H', Same H H' → SqT K H' p (xs ++ ys) → Q (.ref p) H') : rCatA K (.ref a) (.ref b) H Q := by
  refine ⟨a, b, xs, ys, rfl, rfl, h1, h2, hl, fun e => ?_, fun _ e => ?_, fun _ _ p hp => k p _ (same_upd hp) (.inl (.inl upd_same))⟩
  · subst e
    exact k b H (Same.refl H) h2
  · subst e
    exact k a H (Same.refl H) (by rw [List.append_nil]; exact h1)
section
variable {K : PySem.W.Frag} {a : Addr} {tt : TT} {te : TE} {vs : List Nat} {σ : St} {H1 : Hp} {D : Addr} {Qd : Hp → Prop} {j : Nat}
/-- one turn of a comprehension that keeps some ints as they are -/
theorem filt_turn {ns : List Int} {p : Int → Bool} {i : Nat} {x : Int} {H : Hp} (nD : H1 D = none) (hlen : ns.length < 100000) (hx : ns[i]? = some x)
    (ht : ∀ H', Same H1 H' → ∀ R : Bool → Hp → Prop, R (p x) H' → tt ((wipe σ vs).set j (some (.int x))) H' R) (he : ∀ H', Same H1 H' → ∀ R : VK, R (.int x) H' → te ((wipe σ vs).set j (some (.int x))) H' R)
    (h : Same H1 H ∧ H D = some (.lst (((ns.take i).filter p).map V.int))) :
    tt ((wipe σ vs).set j (some (.int x))) H fun b H3 => if b = true then te ((wipe σ vs).set j (some (.int x))) H3 fun y H4 => ∃ acc, H4 D = some (.lst acc) ∧ acc.length < sizeLine ∧ (Same H1 (upd H4 D (.lst (acc ++ [y]))) ∧ upd H4 D (.lst (acc ++ [y])) D = some (.lst (((ns.take (i + 1)).filter p).map V.int)))
      else (Same H1 H3 ∧ H3 D = some (.lst (((ns.take (i + 1)).filter p).map V.int))) := by
  obtain ⟨e, hD⟩ := h
  refine ht H e _ ?_
  have ef := filter_take_succ (p := p) hx
  cases hp : p x with
  | true =>
    rw [hp] at ef
    refine iteT (he H e _ ⟨_, hD, ?_, e.mut nD, ?_⟩)
    · rw [List.length_map]
      have h1 := List.length_filter_le p (ns.take i)
      have h2 := List.length_take_le i ns
      have h3 : (ns.take i).length ≤ ns.length := by rw [List.length_take]; exact Nat.min_le_right _ _
      rw [sizeLine_eq]; omega
    · rw [upd_same, ef, List.map_append]
      rfl
  | false =>
    rw [hp] at ef
    refine iteF ⟨e, ?_⟩
    rw [ef, if_neg (by decide), List.append_nil]
    exact hD
def lcT_filter {ns : List Int} (p : Int → Bool) (hs : SqT K H1 a (ns.map V.int)) (nD : H1 D = none) (hlen : ns.length < 100000) (hw : ∀ x, wipe ((wipe σ vs).set j (some x)) vs = wipe σ vs)
    (ht : ∀ x ∈ ns, ∀ H', Same H1 H' → ∀ R : Bool → Hp → Prop, R (p x) H' → tt ((wipe σ vs).set j (some (.int x))) H' R) (he : ∀ x ∈ ns, ∀ H', Same H1 H' → ∀ R : VK, R (.int x) H' → te ((wipe σ vs).set j (some (.int x))) H' R)
    (k : ∀ H', Same H1 H' → H' D = some (.lst ((ns.filter p).map V.int)) → Qd H') := 
  lc_tup (K := K) (a := a) (xs := ns.map V.int) (g := gName j) (tt := tt) (te := te) (vs := vs) (σ := σ) (H1 := H1) (D := D) (Qd := Qd) (fun i H => Same H1 H ∧ H D = some (.lst (((ns.take i).filter p).map V.int))) ⟨same_upd nD, upd_same⟩ (fun i H _ h => h.1.seqT hs)
    (fun i y H hi h => by
      obtain ⟨x, hx, rfl⟩ := get_map_int hi
      have hm := List.mem_of_getElem? hx
      exact ⟨hw _, filt_turn nD hlen hx (ht x hm) (he x hm) h⟩)
    (fun H h => k H h.1 (by have := h.2; rw [List.length_map, List.take_length] at this; exact this))
def lcL_filter {ns : List Int} (p : Int → Bool) (hs : SqL K H1 a (ns.map V.int)) (nD : H1 D = none) (hlen : ns.length < 100000) (hw : ∀ x, wipe ((wipe σ vs).set j (some x)) vs = wipe σ vs)
    (ht : ∀ x ∈ ns, ∀ H', Same H1 H' → ∀ R : Bool → Hp → Prop, R (p x) H' → tt ((wipe σ vs).set j (some (.int x))) H' R) (he : ∀ x ∈ ns, ∀ H', Same H1 H' → ∀ R : VK, R (.int x) H' → te ((wipe σ vs).set j (some (.int x))) H' R)
    (k : ∀ H', Same H1 H' → H' D = some (.lst ((ns.filter p).map V.int)) → Qd H') := 
  lc_list (K := K) (a := a) (xs := ns.map V.int) (g := gName j) (tt := tt) (te := te) (vs := vs) (σ := σ) (H1 := H1) (D := D) (Qd := Qd) (fun i H => Same H1 H ∧ H D = some (.lst (((ns.take i).filter p).map V.int))) ⟨same_upd nD, upd_same⟩ (fun i H _ h => h.1.seq hs)
    (fun i y H hi h => by
      obtain ⟨x, hx, rfl⟩ := get_map_int hi
      have hm := List.mem_of_getElem? hx
      exact ⟨hw _, filt_turn nD hlen hx (ht x hm) (he x hm) h⟩)
    (fun H h => k H h.1 (by have := h.2; rw [List.length_map, List.take_length] at this; exact this))
def rgI (n : Nat) : List Int := (List.range n).map fun i => ((i : Nat) : Int)
theorem rgI_get {n i : Nat} (h : i < n) : (rgI n)[i]? = some (i : Int) := by
  unfold rgI
  rw [List.getElem?_map, List.getElem?_range h]
  rfl
theorem rgI_length (n : Nat) : (rgI n).length = n := by unfold rgI; rw [List.length_map, List.length_range]
theorem mem_rgI {n : Nat} {x : Int} : x ∈ rgI n ↔ 0 ≤ x ∧ x < n := by
  unfold rgI
  rw [List.mem_map]
  constructor
  · rintro ⟨i, h, rfl⟩
    have := List.mem_range.mp h
    omega
  · rintro ⟨h0, h1⟩
    exact ⟨x.toNat, List.mem_range.mpr (by omega), by omega⟩
def lcR_filter {n : Nat} (p : Int → Bool) (nD : H1 D = none) (hlen : n < 100000) (hw : ∀ x, wipe ((wipe σ vs).set j (some x)) vs = wipe σ vs)
    (ht : ∀ x ∈ rgI n, ∀ H', Same H1 H' → ∀ R : Bool → Hp → Prop, R (p x) H' → tt ((wipe σ vs).set j (some (.int x))) H' R) (he : ∀ x ∈ rgI n, ∀ H', Same H1 H' → ∀ R : VK, R (.int x) H' → te ((wipe σ vs).set j (some (.int x))) H' R)
    (k : ∀ H', Same H1 H' → H' D = some (.lst (((rgI n).filter p).map V.int)) → Qd H') := 
  lc_range (lo := 0) (n := n) (g := gName j) (tt := tt) (te := te) (vs := vs) (σ := σ) (H1 := H1) (D := D) (Qd := Qd) (fun i H => Same H1 H ∧ H D = some (.lst ((((rgI n).take i).filter p).map V.int))) ⟨same_upd nD, upd_same⟩
    (fun i H hi h => by
      have hx := rgI_get hi
      have hm := List.mem_of_getElem? hx
      have e0 : (0 : Int) + ((i : Nat) : Int) = (i : Int) := Int.zero_add _
      rw [e0]
      exact ⟨hw _, filt_turn nD (by rw [rgI_length]; exact hlen) hx (ht _ hm) (he _ hm) h⟩)
    (fun H h => k H h.1 (by have := h.2; rw [List.take_of_length_le (by rw [rgI_length]; exact Nat.le_refl n)] at this; exact this))
theorem in_k {K : PySem.W.Frag} {neg : Bool} {x : Int} {q : Addr} {ns : List Int} {H : Hp} {Q : VK} (h : SqL K H q (ns.map V.int) ∨ SqT K H q (ns.map V.int)) (k : Q (.bl (if neg then !decide (x ∈ ns) else decide (x ∈ ns))) H) : rIn K neg (.int x) (.ref q) H Q :=
  ⟨q, _, rfl, h, rfl, flat_ints ns, by rw [in_ints]; exact k⟩
theorem tup_of {K : PySem.W.Frag} {H : Hp} {q : Addr} {xs : List V} (h : H q = some (.tup xs)) : SqT K H q xs := .inl (.inl h)
theorem lst_of {K : PySem.W.Frag} {H : Hp} {q : Addr} {xs : List V} (h : H q = some (.lst xs)) : SqL K H q xs := .inl (.inl h)
end
def Draws (K : PySem.W.Frag) (p : Addr) (c : Nat) (H H' : Hp) : Prop := Gd H H' ∧ PoolOk K p c H'
/-- _law_some: a new list of fewer than m questions -/
def spSome (K : PySem.W.Frag) : Sp := fun vs H Q _ => ∃ (p : Addr) (c : Nat) (m : Int), vs = [.ref p, .int m] ∧ PoolOk K p c H ∧ c + 200 < LIM ∧ 0 < m ∧ m ≤ 100 ∧
  ∀ H' D l, H D = none → Gd H H' → PoolOk K p (c + 200) H' → H' D = some (.lst (l.map V.int)) → Qn l → (l.length : Int) < m → Q (.ref D) H'
/-- _law_set: the ascending list -/
def spSet (K : PySem.W.Frag) : Sp := fun vs H Q _ => ∃ (q : Addr) (l : List Int), vs = [.ref q] ∧ SqL K H q (l.map V.int) ∧
  ∀ H' D, H D = none → Same H H' → H' D = some (.lst ((norm l).map V.int)) → Q (.ref D) H'
theorem ask_rg : ask48 = rgI 48 := rfl
theorem norm_rg (l : List Int) : (rgI 48).filter (fun x => decide (x ∈ l)) = norm l := rfl
theorem own_bin {C x y : Addr} {f : List Int → List Int → List Int} {l m : List Int} {H : Hp} {Q : VK} {E : XK} (px : PupAt C H x l) (py : PupAt C H y m) (k : ∀ z H', H z = none → Same H H' → PupAt C H' z (f l m) → Q (.ref z) H') :
    rOwn C (spBin C f) E (.ref x) (.ref y) H Q := by
  obtain ⟨dx, t, hx, _⟩ := id px
  obtain ⟨dy, u, hy, _⟩ := id py
  exact ⟨x, y, dx, dy, _, _, rfl, rfl, hx, hy, x, y, l, m, rfl, px, py, k⟩
theorem own_rel {C x y : Addr} {f : List Int → List Int → Bool} {l m : List Int} {H : Hp} {Q : VK} {E : XK} (px : PupAt C H x l) (py : PupAt C H y m) (k : ∀ H', Same H H' → Q (.bl (f (norm l) (norm m))) H') :
    rOwn C (spRel C f) E (.ref x) (.ref y) H Q := by
  obtain ⟨dx, t, hx, _⟩ := id px
  obtain ⟨dy, u, hy, _⟩ := id py
  exact ⟨x, y, dx, dy, _, _, rfl, rfl, hx, hy, x, y, l, m, rfl, px, py, k⟩
theorem fld_rights {K : PySem.W.Frag} {C x : Addr} {l : List Int} {H : Hp} {Q : VK} (px : PupAt C H x l) (c : Cls K C) (n : NoAttr K C "rights") (k : ∀ t, H t = some (.tup ((norm l).map V.int)) → Q (.ref t) H) :
    ∃ a C dx fs v, V.ref x = .ref a ∧ H a = some (.ins C dx fs) ∧ Cls K C ∧ NoAttr K C "rights" ∧ fs.lookup ("rights" : Str) = some v ∧ Q v H := by
  obtain ⟨dx, t, hx, ht⟩ := px
  exact ⟨x, C, dx, _, .ref t, rfl, hx, c, n, rfl, k t ht⟩
/-! the pure facts -/
theorem le_within {l m : List Int} (h1 : Qn l) : fLe (norm l) (norm m) = decide (l.filter (fun x => !decide (x ∈ m)) = []) := by
  rw [Bool.eq_iff_iff]
  unfold fLe
  rw [List.all_eq_true, decide_eq_true_eq, List.filter_eq_nil_iff]
  constructor
  · intro h x hx
    have := h x (mem_norm.mpr ⟨h1 x hx, hx⟩)
    rw [decide_eq_true_eq, mem_norm] at this
    simp [this.2]
  · intro h x hx
    obtain ⟨a, b⟩ := mem_norm.mp hx
    have := h x b
    rw [decide_eq_true_eq, mem_norm]
    exact ⟨a, by simpa using this⟩
theorem or_within {l m : List Int} (h1 : Qn l) : fEq (norm (fOr l m)) (norm m) = decide (l.filter (fun x => !decide (x ∈ m)) = []) := by
  rw [Bool.eq_iff_iff]
  unfold fEq fOr
  rw [decide_eq_true_eq, decide_eq_true_eq, List.filter_eq_nil_iff, norm_eq_iff]
  constructor
  · intro h x hx
    have := (h x (h1 x hx).1 (h1 x hx).2).mp (List.mem_append.mpr (.inl hx))
    simp [this]
  · intro h x h0 h1
    rw [List.mem_append]
    exact ⟨fun a => a.elim (fun b => by simpa using h x b) id, .inr⟩
theorem and_within {l m : List Int} (h1 : Qn l) : fEq (norm (fAnd l m)) (norm l) = decide (l.filter (fun x => !decide (x ∈ m)) = []) := by
  rw [Bool.eq_iff_iff]
  unfold fEq fAnd
  rw [decide_eq_true_eq, decide_eq_true_eq, List.filter_eq_nil_iff, norm_eq_iff]
  constructor
  · intro h x hx
    have := (h x (h1 x hx).1 (h1 x hx).2).mpr hx
    rw [List.mem_filter] at this
    simp [of_decide_eq_true this.2]
  · intro h x h0 h1
    rw [List.mem_filter]
    exact ⟨fun a => a.1, fun a => ⟨a, by simpa using h x a⟩⟩
theorem le_or (l m : List Int) : fLe (norm l) (norm (fOr l m)) = true := by
  unfold fLe fOr
  rw [List.all_eq_true]
  intro x hx
  obtain ⟨a, b⟩ := mem_norm.mp hx
  exact decide_eq_true (mem_norm.mpr ⟨a, List.mem_append.mpr (.inl b)⟩)
theorem le_and (l m : List Int) : fLe (norm (fAnd l m)) (norm m) = true := by
  unfold fLe fAnd
  rw [List.all_eq_true]
  intro x hx
  obtain ⟨a, b⟩ := mem_norm.mp hx
  exact decide_eq_true (mem_norm.mpr ⟨a, of_decide_eq_true (List.mem_filter.mp b).2⟩)
theorem sub_and (l m : List Int) : norm (fAnd (fSub l m) m) = [] := by
  unfold norm fAnd fSub
  rw [List.filter_eq_nil_iff]
  intro x _ h
  have h := of_decide_eq_true h
  rw [List.mem_filter, List.mem_filter] at h
  obtain ⟨⟨_, h2⟩, h3⟩ := h
  have := of_decide_eq_true h3
  simp [this] at h2
theorem sub_or_and (l m : List Int) : norm (fOr (fSub l m) (fAnd l m)) = norm l := norm_ext fun x h0 h1 => by
  unfold fOr fSub fAnd
  rw [List.mem_append, List.mem_filter, List.mem_filter]
  by_cases h : x ∈ m <;> simp [h]
theorem and_set (l m : List Int) : norm (fAnd l m) = (norm l).filter fun x => decide (x ∈ m) := by
  unfold fAnd
  rw [norm_filter]
theorem sub_set (l m : List Int) : norm (fSub l m) = (norm l).filter fun x => !decide (x ∈ m) := by
  unfold fSub
  rw [norm_filter]
theorem ne_false {l m : List Int} (e : l = m) : (!decide (l = m)) = false := by simp [e]
def spPair (K : PySem.W.Frag) : Sp := fun vs H Q _ => ∃ (o t : Addr) (l m : List Int), vs = [.ref o, .ref t] ∧ H o = some (.lst (l.map V.int)) ∧ H t = some (.lst (m.map V.int)) ∧ Qn l ∧ Qn m ∧ l.length ≤ 200 ∧ m.length ≤ 200 ∧ ∀ H', Same H H' → Q (.bl true) H'
theorem kit_bool {K : PySem.W.Frag} : PySem.W.kitOne K (.type "bool") (.type "bool") = some true := kit_ty (by decide +kernel)
theorem dec_self (b : Bool) : (!decide (V.bl b = V.bl b)) = false := by simp
theorem rg_ints (n : Nat) : rgV 0 (n : Int) = (rgI n).map V.int := by
  unfold rgV rgI
  rw [List.map_map, Int.sub_zero, Int.toNat_natCast]
  refine List.map_congr_left fun i _ => ?_
  show V.int (0 + (i : Int)) = V.int (i : Int)
  rw [Int.zero_add]
/-- a list of questions at r -/
def QsAt (H : Hp) (r : Addr) (l : List Int) : Prop := H r = some (.lst (l.map V.int)) ∧ Qn l ∧ l.length ≤ 200
theorem QsAt.gd {H H' : Hp} {r : Addr} {l : List Int} (e : Gd H H') (h : QsAt H r l) : QsAt H' r l := ⟨e.1 _ _ (np_ints l) h.1, h.2⟩
theorem QsAt.same {H H' : Hp} {r : Addr} {l : List Int} (e : Same H H') (h : QsAt H r l) : QsAt H' r l := h.gd e.gd
theorem two_at {x y : V} {r : Int} (h0 : 0 ≤ r) (h1 : r < 2) : atI [x, y] r = some (if r = 0 then x else y) := by
  rcases (show r = 0 ∨ r = 1 by omega) with e | e
  · subst e; exact atI0
  · subst e; exact atI1
/-! ## a pupil beside the ascending list of its questions -/
theorem np_refs (xs : List Addr) : ¬ isPool (.lst (xs.map V.ref)) := by
  rintro ⟨a, c, i, b, s, h⟩
  cases xs with
  | nil => cases h
  | cons x r =>
    injection h with h
    injection h with _ h
    cases r with
    | nil => cases h
    | cons y r => injection h with h _; cases h
def Pr (C : Addr) (H : Hp) (x y : Addr) : Prop := ∃ l, PupAt C H x l ∧ H y = some (.lst ((norm l).map V.int))
theorem Pr.same {C x y : Addr} {H H' : Hp} (e : Same H H') (h : Pr C H x y) : Pr C H' x y := let ⟨l, a, b⟩ := h; ⟨l, a.same e, e _ _ b⟩
theorem Pr.gd {C x y : Addr} {H H' : Hp} (e : Gd H H') (h : Pr C H x y) : Pr C H' x y := let ⟨l, a, b⟩ := h; ⟨l, a.gd e, e.1 _ _ (np_ints _) b⟩
theorem PupAt.mut {C x q : Addr} {H : Hp} {l : List Int} {zs : List V} {o : HO} (hq : H q = some (.lst zs)) (h : PupAt C H x l) : PupAt C (upd H q o) x l := by
  obtain ⟨dx, t, h1, h2⟩ := h
  exact ⟨dx, t, by rw [upd_ne (ne_of h1 hq (by intro z; cases z))]; exact h1, by rw [upd_ne (ne_of h2 hq (by intro z; cases z))]; exact h2⟩
theorem Pr.mut {C x y q : Addr} {H : Hp} {zs : List V} {o : HO} (hq : H q = some (.lst zs)) (ne : y ≠ q) (h : Pr C H x y) : Pr C (upd H q o) x y := let ⟨l, a, b⟩ := h; ⟨l, a.mut hq, by rw [upd_ne ne]; exact b⟩
theorem Pr.ne {C x y q z : Addr} {H : Hp} {zs : List V} (h : Pr C H x y) (hq : H q = some (.lst (.ref z :: zs))) : y ≠ q := by
  obtain ⟨l, a, b⟩ := h
  refine ne_of b hq fun e => ?_
  injection e with e
  cases hn : norm l with
  | nil => rw [hn] at e; cases e
  | cons u r => rw [hn] at e; injection e with e _; cases e
def Tri (C : Addr) (H : Hp) (PL SL : Addr) (xs ys : List Addr) : Prop := H PL = some (.lst (xs.map V.ref)) ∧ H SL = some (.lst (ys.map V.ref)) ∧ xs.length = 3 ∧ ys.length = 3 ∧ ∀ (k : Nat) x y, xs[k]? = some x → ys[k]? = some y → Pr C H x y
theorem Tri.gd {C PL SL : Addr} {H H' : Hp} {xs ys : List Addr} (e : Gd H H') (h : Tri C H PL SL xs ys) : Tri C H' PL SL xs ys :=
  ⟨e.1 _ _ (np_refs _) h.1, e.1 _ _ (np_refs _) h.2.1, h.2.2.1, h.2.2.2.1, fun k x y a b => (h.2.2.2.2 k x y a b).gd e⟩
theorem at_ref {xs : List Addr} {r : Int} (h0 : 0 ≤ r) (h1 : r < (xs.length : Int)) : ∃ (j : Nat) (x : Addr), xs[j]? = some x ∧ r = (j : Int) ∧ j < xs.length ∧ atI (xs.map V.ref) r = some (.ref x) := by
  obtain ⟨j, rfl⟩ : ∃ j : Nat, r = (j : Int) := ⟨r.toNat, by omega⟩
  have hj : j < xs.length := by omega
  refine ⟨j, xs[j], List.getElem?_eq_getElem hj, rfl, hj, atI_nat ?_⟩
  rw [List.getElem?_map, List.getElem?_eq_getElem hj]
  rfl
theorem get3 {xs : List Addr} {j : Nat} (h : xs.length = 3) (hj : j < 3) : ∃ x, xs[j]? = some x := ⟨xs[j]'(by omega), List.getElem?_eq_getElem _⟩
def spHas (C : Addr) : Sp := fun vs H Q _ => ∃ (a : Addr) (p : List Int) (z : Int), vs = [.ref a, .int z] ∧ PupAt C H a p ∧ Q (.bl (decide (z ∈ norm p))) H
def spLen (C : Addr) : Sp := fun vs H Q _ => ∃ (a : Addr) (p : List Int), vs = [.ref a] ∧ PupAt C H a p ∧ Q (.int ((norm p).length : Nat)) H
def spAdded (C : Addr) : Sp := fun vs H Q _ => ∃ (a : Addr) (p : List Int) (z : Int), vs = [.ref a, .int z] ∧ PupAt C H a p ∧ 0 ≤ z ∧ z < 48 ∧ ∀ x H', H x = none → Same H H' → PupAt C H' x (p ++ [z]) → Q (.ref x) H'
def spAfter (K : PySem.W.Frag) (C : Addr) : Sp := fun vs H Q _ => ∃ (p PL SL : Addr) (c : Nat) (xs ys : List Addr), vs = [.ref p, .ref PL, .ref SL] ∧ PoolOk K p c H ∧ c + 100 < LIM ∧ Tri C H PL SL xs ys ∧
  ∀ H' t x y, Gd H H' → PoolOk K p (c + 100) H' → H' t = some (.tup [.ref x, .ref y]) → H y = none → Pr C H' x y → Q (.ref t) H'
def spRight (C : Addr) : Sp := fun vs H Q _ => ∃ (PL SL : Addr) (xs ys : List Addr), vs = [.ref PL, .ref SL] ∧ Tri C H PL SL xs ys ∧ ∀ H', Same H H' → Q (.bl true) H'
theorem own_has {C x : Addr} {neg : Bool} {z : Int} {p : List Int} {H : Hp} {Q : VK} {E : XK} (px : PupAt C H x p) (k : Q (.bl (if neg then !decide (z ∈ norm p) else decide (z ∈ norm p))) H) : rOwnIn C (spHas C) E neg (.int z) (.ref x) H Q := by
  obtain ⟨dx, t, hx, _⟩ := id px
  exact ⟨x, dx, _, rfl, hx, x, p, z, rfl, px, _, rfl, k⟩
theorem own_len {C x : Addr} {p : List Int} {H : Hp} {Q : VK} {E : XK} (px : PupAt C H x p) (k : Q (.int ((norm p).length : Nat)) H) : rOwnLen C (spLen C) E [.ref x] H Q := by
  obtain ⟨dx, t, hx, _⟩ := id px
  have := norm_len p
  exact ⟨x, dx, _, rfl, hx, x, p, rfl, px, _, rfl, by omega, by omega, k⟩
theorem le_listW (l m : List Int) : fLe (norm l) (norm m) = decide ((norm l).filter (fun x => !decide (x ∈ norm m)) = []) := by
  have := le_within (m := norm m) (qn_norm l)
  rw [norm_norm, norm_norm] at this
  exact this
theorem dpAll_bls {K : PySem.W.Frag} {H : Hp} : ∀ bs : List Bool, DpAll K H (bs.map V.bl) (bs.map PyData.bool)
  | [] => .nil
  | n :: r => .cons (.bl n) (dpAll_bls r)
theorem canLay_bls : ∀ ns : List Bool, PyData.canLayAll0 (ns.map PyData.bool) = true
  | [] => by rw [List.map_nil, PyData.canLayAll0]
  | n :: r => by
    rw [List.map_cons, PyData.canLayAll0, canLay_bls r]
    rfl
theorem depth_bls : ∀ ns : List Bool, PyData.depthAll (ns.map PyData.bool) = 0
  | [] => by rw [List.map_nil, PyData.depthAll]
  | n :: r => by
    rw [List.map_cons, PyData.depthAll, depth_bls r]
    rfl
theorem shB (ns : List Bool) : SeqAt.shaped (.list (ns.map PyData.bool)) = true := by
  simp [SeqAt.shaped, PyData.canLay0, canLay_bls, PyData.depth, depth_bls]
theorem evAll_bls : ∀ ns : List Bool, PyData.eqvAll (ns.map PyData.bool) (ns.map PyData.bool) = true
  | [] => by rw [List.map_nil, PyData.eqvAll]
  | n :: r => by
    rw [List.map_cons, PyData.eqvAll, evAll_bls r]
    cases n <;> simp [PyData.eqv]
theorem neD_bls {K : PySem.W.Frag} {H : Hp} {a b : Addr} {ns : List Bool} {Q : VK} (h1 : SqL K H a (ns.map V.bl)) (h2 : SqL K H b (ns.map V.bl)) (q : Q (.bl false) H) : rNeD K (.ref a) (.ref b) H Q :=
  ⟨_, _, .lst h1 (dpAll_bls ns), .lst h2 (dpAll_bls ns), shB ns, shB ns, by rw [PyData.eqv, evAll_bls]; exact q⟩
theorem take_get {α : Type} {l : List α} {i : Nat} {x : α} (h : l[i]? = some x) : l.take (i + 1) = l.take i ++ [x] := by
  rw [List.take_add_one, h]
  rfl
end L2

namespace K15
open PySem PySem.Spec PyProof.Rows L2
def topS (i : Nat) : Stmt := PySem.Challenge.pw_steppedtests_k15_whole_sets_of_questions.main.body.getD i (.Pass ⟨0, 0, 0, 0⟩)
abbrev s_is_question : Stmt := topS 5
abbrev N_is_question : List Str := ["number"]
abbrev P_is_question : List Str := ["number"]
theorem sc_is_question : FnScope N_is_question P_is_question (defScope s_is_question) := ⟨rfl, rfl, rfl, by decide +kernel, rfl, by decide +kernel, by decide +kernel⟩
abbrev s_Pupil_init : Stmt := inClass (topS 6) 0
abbrev N_Pupil_init : List Str := ["self", "questions", "taken", "question"]
abbrev P_Pupil_init : List Str := ["self", "questions"]
theorem sc_Pupil_init : FnScope N_Pupil_init P_Pupil_init (defScope s_Pupil_init) := ⟨rfl, rfl, rfl, by decide +kernel, rfl, by decide +kernel, by decide +kernel⟩
abbrev s_Pupil_le : Stmt := inClass (topS 6) 1
abbrev N_Pupil_le : List Str := ["self", "other", "question"]
abbrev P_Pupil_le : List Str := ["self", "other"]
theorem sc_Pupil_le : FnScope N_Pupil_le P_Pupil_le (defScope s_Pupil_le) := ⟨rfl, rfl, rfl, by decide +kernel, rfl, by decide +kernel, by decide +kernel⟩
abbrev s_Pupil_or : Stmt := inClass (topS 6) 2
abbrev N_Pupil_or : List Str := ["self", "other"]
abbrev P_Pupil_or : List Str := ["self", "other"]
theorem sc_Pupil_or : FnScope N_Pupil_or P_Pupil_or (defScope s_Pupil_or) := ⟨rfl, rfl, rfl, by decide +kernel, rfl, by decide +kernel, by decide +kernel⟩
abbrev s_Pupil_and : Stmt := inClass (topS 6) 3
abbrev N_Pupil_and : List Str := ["self", "other", "question"]
abbrev P_Pupil_and : List Str := ["self", "other"]
theorem sc_Pupil_and : FnScope N_Pupil_and P_Pupil_and (defScope s_Pupil_and) := ⟨rfl, rfl, rfl, by decide +kernel, rfl, by decide +kernel, by decide +kernel⟩
abbrev s_Pupil_sub : Stmt := inClass (topS 6) 4
abbrev N_Pupil_sub : List Str := ["self", "other", "question"]
abbrev P_Pupil_sub : List Str := ["self", "other"]
theorem sc_Pupil_sub : FnScope N_Pupil_sub P_Pupil_sub (defScope s_Pupil_sub) := ⟨rfl, rfl, rfl, by decide +kernel, rfl, by decide +kernel, by decide +kernel⟩
abbrev s_Pupil_contains : Stmt := inClass (topS 6) 5
abbrev N_Pupil_contains : List Str := ["self", "x"]
abbrev P_Pupil_contains : List Str := ["self", "x"]
theorem sc_Pupil_contains : FnScope N_Pupil_contains P_Pupil_contains (defScope s_Pupil_contains) := ⟨rfl, rfl, rfl, by decide +kernel, rfl, by decide +kernel, by decide +kernel⟩
abbrev s_Pupil_len : Stmt := inClass (topS 6) 6
abbrev N_Pupil_len : List Str := ["self"]
abbrev P_Pupil_len : List Str := ["self"]
theorem sc_Pupil_len : FnScope N_Pupil_len P_Pupil_len (defScope s_Pupil_len) := ⟨rfl, rfl, rfl, by decide +kernel, rfl, by decide +kernel, by decide +kernel⟩
abbrev s_Pupil_eq : Stmt := inClass (topS 6) 7
abbrev N_Pupil_eq : List Str := ["self", "other"]
abbrev P_Pupil_eq : List Str := ["self", "other"]
theorem sc_Pupil_eq : FnScope N_Pupil_eq P_Pupil_eq (defScope s_Pupil_eq) := ⟨rfl, rfl, rfl, by decide +kernel, rfl, by decide +kernel, by decide +kernel⟩
abbrev s_Pupil_added : Stmt := inClass (topS 6) 8
abbrev N_Pupil_added : List Str := ["self", "question"]
abbrev P_Pupil_added : List Str := ["self", "question"]
theorem sc_Pupil_added : FnScope N_Pupil_added P_Pupil_added (defScope s_Pupil_added) := ⟨rfl, rfl, rfl, by decide +kernel, rfl, by decide +kernel, by decide +kernel⟩
abbrev s_l_pool : Stmt := topS 8
abbrev N_l_pool : List Str := ["_law_script"]
abbrev P_l_pool : List Str := ["_law_script"]
theorem sc_l_pool : FnScope N_l_pool P_l_pool (defScope s_l_pool) := ⟨rfl, rfl, rfl, by decide +kernel, rfl, by decide +kernel, by decide +kernel⟩
abbrev s_l_draw : Stmt := topS 9
abbrev N_l_draw : List Str := ["_law_pool_here", "_law_limit", "_law_cell", "_law_digit", "_law_mixed"]
abbrev P_l_draw : List Str := ["_law_pool_here", "_law_limit"]
theorem sc_l_draw : FnScope N_l_draw P_l_draw (defScope s_l_draw) := ⟨rfl, rfl, rfl, by decide +kernel, rfl, by decide +kernel, by decide +kernel⟩
abbrev s_l_set : Stmt := topS 10
abbrev N_l_set : List Str := ["_law_questions", "_law_name"]
abbrev P_l_set : List Str := ["_law_questions"]
theorem sc_l_set : FnScope N_l_set P_l_set (defScope s_l_set) := ⟨rfl, rfl, rfl, by decide +kernel, rfl, by decide +kernel, by decide +kernel⟩
abbrev s_l_after : Stmt := topS 11
abbrev N_l_after : List Str := ["_law_pool_here", "_law_pupils", "_law_sets", "_law_first", "_law_second", "_law_way", "_law_one", "_law_two", "_law_mine", "_law_theirs", "_law_question", "_law_drawn", "_law_name", "_law_k"]
abbrev P_l_after : List Str := ["_law_pool_here", "_law_pupils", "_law_sets"]
theorem sc_l_after : FnScope N_l_after P_l_after (defScope s_l_after) := ⟨rfl, rfl, rfl, by decide +kernel, rfl, by decide +kernel, by decide +kernel⟩
abbrev s_l_right : Stmt := topS 12
abbrev N_l_right : List Str := ["_law_pupils", "_law_sets", "_law_k", "_law_other", "_law_within", "_law_name"]
abbrev P_l_right : List Str := ["_law_pupils", "_law_sets"]
theorem sc_l_right : FnScope N_l_right P_l_right (defScope s_l_right) := ⟨rfl, rfl, rfl, by decide +kernel, rfl, by decide +kernel, by decide +kernel⟩
abbrev s_law : Stmt := topS 13
abbrev N_law : List Str := ["_law_script", "_law_pool_here", "_law_pupils", "_law_sets", "_law_before", "_law_k", "_law_at", "_law_pupil", "_law_told", "_law_question", "_law_one"]
abbrev P_law : List Str := ["_law_script"]
theorem sc_law : FnScope N_law P_law (defScope s_law) := ⟨rfl, rfl, rfl, by decide +kernel, rfl, by decide +kernel, by decide +kernel⟩
structure Ad where
  c_Pupil : Addr
  f_is_question : Addr
  d_is_question : FuncData
  f_Pupil_init : Addr
  d_Pupil_init : FuncData
  f_Pupil_le : Addr
  d_Pupil_le : FuncData
  f_Pupil_or : Addr
  d_Pupil_or : FuncData
  f_Pupil_and : Addr
  d_Pupil_and : FuncData
  f_Pupil_sub : Addr
  d_Pupil_sub : FuncData
  f_Pupil_contains : Addr
  d_Pupil_contains : FuncData
  f_Pupil_len : Addr
  d_Pupil_len : FuncData
  f_Pupil_eq : Addr
  d_Pupil_eq : FuncData
  f_Pupil_added : Addr
  d_Pupil_added : FuncData
  f_l_pool : Addr
  d_l_pool : FuncData
  f_l_draw : Addr
  d_l_draw : FuncData
  f_l_set : Addr
  d_l_set : FuncData
  f_l_after : Addr
  d_l_after : FuncData
  f_l_right : Addr
  d_l_right : FuncData
  f_law : Addr
  d_law : FuncData
  t_QUESTIONS : Tok
structure Txt (K : PySem.W.Frag) (mg : Str → Option Value) (a : Ad) : Prop where
  g_Pupil : mg "Pupil" = some (.ref a.c_Pupil)
  cl_Pupil : Cls K a.c_Pupil
  mk_Pupil : Mk K a.c_Pupil a.f_Pupil_init
  nA_Pupil_rights : NoAttr K a.c_Pupil "rights"
  sf_Pupil : PySem.W.selfFirst K a.c_Pupil = true
  ic_Pupil : PySem.W.findIn K (.ref a.c_Pupil) "__class__" = some (some (.builtin "object.__class__")) ∧ PySem.W.specialIn K (.builtin "object.__class__") "__get__" = some (some (.builtin "getset_descriptor.__get__")) ∧ PySem.W.takesIn K (.builtin "object.__class__") = some true ∧ PySem.W.mroIn K a.c_Pupil (.type "object") = some true
  is_Pupil : PySem.W.kitOne K (.ref a.c_Pupil) (.ref a.c_Pupil) = some true
  F_is_question : Fun K "is_question" "is_question" s_is_question a.f_is_question a.d_is_question
  b_is_question : Binds K a.d_is_question P_is_question []
  k_is_question : PySem.W.keepIn K (.ref a.f_is_question) = true
  g_is_question : mg "is_question" = some (.ref a.f_is_question)
  F_Pupil_init : Fun K "__init__" "Pupil.__init__" s_Pupil_init a.f_Pupil_init a.d_Pupil_init
  b_Pupil_init : Binds K a.d_Pupil_init P_Pupil_init []
  k_Pupil_init : PySem.W.keepIn K (.ref a.f_Pupil_init) = true
  i_Pupil_init : PySem.W.isFn K (.ref a.f_Pupil_init) = true
  F_Pupil_le : Fun K "__le__" "Pupil.__le__" s_Pupil_le a.f_Pupil_le a.d_Pupil_le
  b_Pupil_le : Binds K a.d_Pupil_le P_Pupil_le []
  k_Pupil_le : PySem.W.keepIn K (.ref a.f_Pupil_le) = true
  i_Pupil_le : PySem.W.isFn K (.ref a.f_Pupil_le) = true
  s_Pupil_le : PySem.W.findIn K (.ref a.c_Pupil) "__le__" = some (some (.ref a.f_Pupil_le))
  F_Pupil_or : Fun K "__or__" "Pupil.__or__" s_Pupil_or a.f_Pupil_or a.d_Pupil_or
  b_Pupil_or : Binds K a.d_Pupil_or P_Pupil_or []
  k_Pupil_or : PySem.W.keepIn K (.ref a.f_Pupil_or) = true
  i_Pupil_or : PySem.W.isFn K (.ref a.f_Pupil_or) = true
  s_Pupil_or : PySem.W.findIn K (.ref a.c_Pupil) "__or__" = some (some (.ref a.f_Pupil_or))
  F_Pupil_and : Fun K "__and__" "Pupil.__and__" s_Pupil_and a.f_Pupil_and a.d_Pupil_and
  b_Pupil_and : Binds K a.d_Pupil_and P_Pupil_and []
  k_Pupil_and : PySem.W.keepIn K (.ref a.f_Pupil_and) = true
  i_Pupil_and : PySem.W.isFn K (.ref a.f_Pupil_and) = true
  s_Pupil_and : PySem.W.findIn K (.ref a.c_Pupil) "__and__" = some (some (.ref a.f_Pupil_and))
  F_Pupil_sub : Fun K "__sub__" "Pupil.__sub__" s_Pupil_sub a.f_Pupil_sub a.d_Pupil_sub
  b_Pupil_sub : Binds K a.d_Pupil_sub P_Pupil_sub []
  k_Pupil_sub : PySem.W.keepIn K (.ref a.f_Pupil_sub) = true
  i_Pupil_sub : PySem.W.isFn K (.ref a.f_Pupil_sub) = true
  s_Pupil_sub : PySem.W.findIn K (.ref a.c_Pupil) "__sub__" = some (some (.ref a.f_Pupil_sub))
  F_Pupil_contains : Fun K "__contains__" "Pupil.__contains__" s_Pupil_contains a.f_Pupil_contains a.d_Pupil_contains
  b_Pupil_contains : Binds K a.d_Pupil_contains P_Pupil_contains []
  k_Pupil_contains : PySem.W.keepIn K (.ref a.f_Pupil_contains) = true
  i_Pupil_contains : PySem.W.isFn K (.ref a.f_Pupil_contains) = true
  s_Pupil_contains : PySem.W.findIn K (.ref a.c_Pupil) "__contains__" = some (some (.ref a.f_Pupil_contains))
  F_Pupil_len : Fun K "__len__" "Pupil.__len__" s_Pupil_len a.f_Pupil_len a.d_Pupil_len
  b_Pupil_len : Binds K a.d_Pupil_len P_Pupil_len []
  k_Pupil_len : PySem.W.keepIn K (.ref a.f_Pupil_len) = true
  i_Pupil_len : PySem.W.isFn K (.ref a.f_Pupil_len) = true
  s_Pupil_len : PySem.W.findIn K (.ref a.c_Pupil) "__len__" = some (some (.ref a.f_Pupil_len))
  F_Pupil_eq : Fun K "__eq__" "Pupil.__eq__" s_Pupil_eq a.f_Pupil_eq a.d_Pupil_eq
  b_Pupil_eq : Binds K a.d_Pupil_eq P_Pupil_eq []
  k_Pupil_eq : PySem.W.keepIn K (.ref a.f_Pupil_eq) = true
  i_Pupil_eq : PySem.W.isFn K (.ref a.f_Pupil_eq) = true
  s_Pupil_eq : PySem.W.findIn K (.ref a.c_Pupil) "__eq__" = some (some (.ref a.f_Pupil_eq))
  F_Pupil_added : Fun K "added" "Pupil.added" s_Pupil_added a.f_Pupil_added a.d_Pupil_added
  b_Pupil_added : Binds K a.d_Pupil_added P_Pupil_added []
  k_Pupil_added : PySem.W.keepIn K (.ref a.f_Pupil_added) = true
  i_Pupil_added : PySem.W.isFn K (.ref a.f_Pupil_added) = true
  m_Pupil_added : Meth K a.c_Pupil "added" a.f_Pupil_added
  F_l_pool : Fun K "_law_pool" "_law_pool" s_l_pool a.f_l_pool a.d_l_pool
  b_l_pool : Binds K a.d_l_pool P_l_pool []
  k_l_pool : PySem.W.keepIn K (.ref a.f_l_pool) = true
  g_l_pool : mg "_law_pool" = some (.ref a.f_l_pool)
  F_l_draw : Fun K "_law_draw" "_law_draw" s_l_draw a.f_l_draw a.d_l_draw
  b_l_draw : Binds K a.d_l_draw P_l_draw []
  k_l_draw : PySem.W.keepIn K (.ref a.f_l_draw) = true
  g_l_draw : mg "_law_draw" = some (.ref a.f_l_draw)
  F_l_set : Fun K "_law_set" "_law_set" s_l_set a.f_l_set a.d_l_set
  b_l_set : Binds K a.d_l_set P_l_set []
  k_l_set : PySem.W.keepIn K (.ref a.f_l_set) = true
  g_l_set : mg "_law_set" = some (.ref a.f_l_set)
  F_l_after : Fun K "_law_after" "_law_after" s_l_after a.f_l_after a.d_l_after
  b_l_after : Binds K a.d_l_after P_l_after []
  k_l_after : PySem.W.keepIn K (.ref a.f_l_after) = true
  g_l_after : mg "_law_after" = some (.ref a.f_l_after)
  F_l_right : Fun K "_law_right" "_law_right" s_l_right a.f_l_right a.d_l_right
  b_l_right : Binds K a.d_l_right P_l_right []
  k_l_right : PySem.W.keepIn K (.ref a.f_l_right) = true
  g_l_right : mg "_law_right" = some (.ref a.f_l_right)
  F_law : Fun K "law" "law" s_law a.f_law a.d_law
  b_law : Binds K a.d_law P_law []
  k_law : PySem.W.keepIn K (.ref a.f_law) = true
  g_law : mg "law" = some (.ref a.f_law)
  g_QUESTIONS : mg "QUESTIONS" = some (.int 48 a.t_QUESTIONS)
  z_abs : mg "abs" = none
  z_all : mg "all" = none
  z_int : mg "int" = none
  z_isinstance : mg "isinstance" = none
  z_len : mg "len" = none
  z_list : mg "list" = none
  z_range : mg "range" = none
  z_set : mg "set" = none
  z_sorted : mg "sorted" = none
  z_tuple : mg "tuple" = none
section
variable {P : Program} {w : World} {K : PySem.W.Frag} {mg : Str → Option Value} {base : Heap} {a : Ad}
def spIsQ : Sp := fun vs H Q _ => ∃ n : Int, vs = [.int n] ∧ Q (.bl (decide (0 ≤ n ∧ n < 48))) H
theorem ok_is_question (T : Txt K mg a) : FnOk P w K mg base CX0 1 a.f_is_question a.d_is_question P_is_question spIsQ := by
  refine T.F_is_question.ok sc_is_question (fun vs H Q E h => ?_) (fun cdv A outer s H vs Q E hr h => ?_)
  · obtain ⟨n, rfl, _⟩ := h
    rfl
  · obtain ⟨n, rfl, q⟩ := h
    refine ⟨_, (pss_one (ps_ret (pe_chain op_le op_lt pe_int (pv 0) (pe_glob (v := .int 48) (by rfl) T.g_QUESTIONS ⟨_, rfl⟩)))), ?_⟩
    refine ⟨_, rfl, _, _, rfl, rfl, _, rfl, ?_⟩
    by_cases h0 : (0 : Int) ≤ n
    · rw [decide_eq_true h0]
      refine iteT ⟨_, _, rfl, rfl, ?_⟩
      show Q (.bl (decide (n < 48))) H
      rw [show decide (n < 48) = decide (0 ≤ n ∧ n < 48) by rw [Bool.eq_iff_iff]; simp [h0]]
      exact q
    · rw [decide_eq_false h0]
      refine iteF ?_
      rw [show decide (0 ≤ n ∧ n < 48) = false by simp [h0]] at q
      exact q
theorem ok_Pupil_init (T : Txt K mg a) : FnOk P w K mg base CX0 2 a.f_Pupil_init a.d_Pupil_init P_Pupil_init (spInit K a.c_Pupil) := by
  refine T.F_Pupil_init.ok sc_Pupil_init (fun vs H Q E h => ?_) (fun cdv A outer s H vs Q E hr h => ?_)
  · obtain ⟨x, dx, q, l, rfl, _⟩ := h
    rfl
  · obtain ⟨x, dx, q, l, rfl, hx, hq, hl, hn, k⟩ := h
    refine ⟨_, (Evl.pss_cut (ps_set (i := 2) sc_Pupil_init.nd rfl (Or.inl rfl) (pe_callTy call_tuple_of (by rfl) T.z_tuple (by decide +kernel) (pa_cons (pv 1) pa_nil)))
  (Evl.pss_cut (ps_for PassesOwn.never rfl (pi_tup (pv 2)) (pg_name (i := 3) sc_Pupil_init.nd rfl (Or.inl rfl))
    (pss_one (ps_if (pt_not (pt_val (pe_call (ok_is_question T) (hr.mono (by decide)) (by rfl) T.g_is_question T.k_is_question T.b_is_question .nil pass0 (pa_cons (pv 3) pa_nil))))
    (pss_one ps_never)
    pss_nil)))
  (pss_one (ps_fld (pv 0) (pe_callTy call_tuple_of (by rfl) T.z_tuple (by decide +kernel) (pa_cons (pe_callB (cr_sortedSet rfl) (by rfl) T.z_sorted (by decide +kernel) (pa_cons (pe_callTy (cr_setOf rfl) (by rfl) T.z_set (by decide +kernel) (pa_cons (pv 2) pa_nil)) pa_nil)) pa_nil)) rfl)))), ?_⟩
    refine ⟨fun σ H1 => ∃ t, σ = [some (.ref x), some (.ref q), some (.ref t), none] ∧ Same H H1 ∧ SqT K H1 t (l.map V.int), ?_, ?_⟩
    · refine ⟨_, rfl, q, l.map V.int, rfl, ?_⟩
      rcases hq with hq | hq
      · exact .inl ⟨hq, fun t ht => ⟨t, rfl, same_upd ht, .inl (.inl upd_same)⟩⟩
      · exact .inr ⟨hq, ⟨q, rfl, Same.refl _, hq⟩⟩
    · rintro σ H1 ⟨t, rfl, e1, ht⟩
      refine ⟨fun σ H2 => ∃ v, σ = [some (.ref x), some (.ref q), some (.ref t), v] ∧ Same H H2 ∧ SqT K H2 t (l.map V.int), ?_, ?_⟩
      · refine ⟨_, rfl, t, rfl, ⟨_, ht⟩, for_tup (K := K) (a := t) (xs := l.map V.int) (fun i σ H2 => ∃ v, σ = [some (.ref x), some (.ref q), some (.ref t), v] ∧ Same H H2 ∧ SqT K H2 t (l.map V.int)) ⟨none, rfl, e1, ht⟩ (fun i σ H2 _ ⟨_, _, _, h⟩ => h) ?_ ?_⟩
        · rintro i y σ H2 hi ⟨v, rfl, e2, ht2⟩
          obtain ⟨z, hz, rfl⟩ := get_map_int hi
          have hz2 := hn z (List.mem_of_getElem? hz)
          refine ⟨_, rfl, z, rfl, ?_⟩
          rw [decide_eq_true hz2]
          refine ⟨_, rfl, ?_⟩
          exact iteF ⟨_, rfl, e2, ht2⟩
        · rintro σ H2 ⟨v, rfl, e2, ht2⟩
          exact ⟨v, rfl, e2, ht2⟩
      · rintro σ H2 ⟨v, rfl, e2, ht2⟩
        refine ⟨_, rfl, t, l, rfl, ht2, by omega, fun p c np hc hL => ?_⟩
        have hc48 : c ≤ 48 := by
          have := hL ask48 fun k hk => mem_ask.mpr (hn k hk)
          unfold ask48 at this
          rw [List.length_map, List.length_range] at this
          exact this
        refine ⟨p, _, c, rfl, upd_same, by omega, fun ns r hs hm hlen nr => ?_⟩
        have ens : ns = norm l := norm_of_sorted hs (fun x => by rw [hm, decide_eq_true_eq]) hn
        subst ens
        refine ⟨r, _, rfl, .inl ⟨.inl (.inl upd_same), fun t2 nt2 => ?_⟩⟩
        have s2 : Same H2 (upd (upd (upd H2 p (SetO w p (fun j => decide (j ∈ l)) c)) r (.lst ((norm l).map V.int))) t2 (.tup ((norm l).map V.int))) := ((same_upd np).trans (same_upd nr)).trans (same_upd nt2)
        have hx2 := s2 _ _ (e2 _ _ hx)
        have nx : t2 ≠ x := (ne_of_none ((same_upd nr) _ _ ((same_upd np) _ _ (e2 _ _ hx))) nt2).symm
        refine ⟨_, rfl, x, _, dx, [], rfl, hx2, T.cl_Pupil, T.nA_Pupil_rights, by decide, ?_⟩
        refine k _ t2 upd_same ?_ fun b o hb e => ?_
        · rw [upd_ne nx, upd_same]
        · rw [upd_ne hb]
          exact s2 _ _ (e2 _ _ e)
theorem ok_Pupil_or (T : Txt K mg a) : FnOk P w K mg base CX0 4 a.f_Pupil_or a.d_Pupil_or P_Pupil_or (spBin a.c_Pupil fOr) := by
  refine T.F_Pupil_or.ok sc_Pupil_or (fun vs H Q E h => ?_) (fun cdv A outer s H vs Q E hr h => ?_)
  · obtain ⟨x, y, p, q, rfl, _⟩ := h
    rfl
  · obtain ⟨x, y, p, q, rfl, pa, pb, k⟩ := h
    obtain ⟨dx, t, hx, ht⟩ := id pa
    obtain ⟨dy, u, hy, hu⟩ := id pb
    refine ⟨_, (pss_one (ps_ret (pe_make T.mk_Pupil (ok_Pupil_init T) (hr.mono (by decide)) (by rfl) T.g_Pupil T.b_Pupil_init .nil pass0 (pa_cons (pe_op op_catA (pe_fld (pv 0) (by rfl)) (pe_fld (pv 1) (by rfl))) pa_nil)))), ?_⟩
    refine ⟨_, rfl, x, _, dx, _, _, rfl, hx, T.cl_Pupil, T.nA_Pupil_rights, rfl, _, rfl, y, _, dy, _, _, rfl, hy, T.cl_Pupil, T.nA_Pupil_rights, rfl, ?_⟩
    refine catA_k (tup_of ht) (tup_of hu) ?_ fun r H1 e1 hr1 => ?_
    · rw [List.length_map, List.length_map, sizeLine_eq]
      have := norm_len p
      have := norm_len q
      omega
    · rw [← List.map_append] at hr1
      refine pup_make (.inr hr1) ?_ (qn_append (qn_norm _) (qn_norm _)) fun z H2 nz e2 pz => k z H2 (e1.free nz) (e1.trans e2) (pz.eq (norm_or p q))
      rw [List.length_append]
      have := norm_len p
      have := norm_len q
      omega
theorem ok_Pupil_and (T : Txt K mg a) : FnOk P w K mg base CX0 4 a.f_Pupil_and a.d_Pupil_and P_Pupil_and (spBin a.c_Pupil fAnd) := by
  refine T.F_Pupil_and.ok sc_Pupil_and (fun vs H Q E h => ?_) (fun cdv A outer s H vs Q E hr h => ?_)
  · obtain ⟨x, y, p, q, rfl, _⟩ := h
    rfl
  · obtain ⟨x, y, p, q, rfl, pa, pb, k⟩ := h
    obtain ⟨dx, t, hx, ht⟩ := id pa
    obtain ⟨dy, u, hy, hu⟩ := id pb
    refine ⟨_, (pss_one (ps_ret (pe_make T.mk_Pupil (ok_Pupil_init T) (hr.mono (by decide)) (by rfl) T.g_Pupil T.b_Pupil_init .nil pass0 (pa_cons (pe_lc (own := [("question", 2)]) (g := gName 2) (tt := (tTest (tOp (rIn K false) (tVar 2) (tFld K (tVar 1) "rights")))) (te := (tVar 2)) rfl sc_Pupil_and.nd (pi_tup (pe_fld (pv 0) (by rfl))) (blkOk_by (N := N_Pupil_and) (sc := defScope s_Pupil_and) (by decide +kernel)) (fun _ _ _ _ _ => pg_name (i := 2) sc_Pupil_and.nd rfl (Or.inl rfl)) (fun _ _ _ _ _ => by exact (pts_one (pt_cmpR op_in_seq (pv 2) (pe_fld (pv 1) (by rfl)) (by with_unfolding_all rfl)))) (fun _ _ _ _ _ => by exact (pv 2))) pa_nil)))), ?_⟩
    refine ⟨_, rfl, x, _, dx, _, _, rfl, hx, T.cl_Pupil, T.nA_Pupil_rights, rfl, t, rfl, ⟨_, tup_of ht⟩, fun D nD => lcT_filter (K := K) (ns := norm p) (fun z => decide (z ∈ norm q)) (tup_of ht) nD (by have := norm_len p; omega) (fun _ => rfl) ?_ ?_ ?_⟩
    · intro z hz H' e' R r
      exact ⟨_, rfl, _, rfl, y, _, dy, _, _, rfl, e' _ _ hy, T.cl_Pupil, T.nA_Pupil_rights, rfl, in_k (.inr (tup_of (e' _ _ hu))) ⟨_, rfl, r⟩⟩
    · intro z hz H' e' R r
      exact ⟨_, rfl, r⟩
    · intro H1 e1 h1
      refine pup_make (.inl (lst_of h1)) ?_ (qn_filter (qn_norm _)) fun z H2 nz e2 pz => k z H2 (e1.free nz) (e1.trans e2) (pz.eq ?_)
      · have := norm_len p
        have := List.length_filter_le (fun z => decide (z ∈ norm q)) (norm p)
        omega
      · rw [norm_filter, norm_norm]
        refine norm_ext fun z h0 h1 => ?_
        simp only [fAnd, List.mem_filter, mem_norm, Bool.not_eq_true', decide_eq_true_eq, decide_eq_false_iff_not, h0, h1, true_and]
theorem ok_Pupil_sub (T : Txt K mg a) : FnOk P w K mg base CX0 4 a.f_Pupil_sub a.d_Pupil_sub P_Pupil_sub (spBin a.c_Pupil fSub) := by
  refine T.F_Pupil_sub.ok sc_Pupil_sub (fun vs H Q E h => ?_) (fun cdv A outer s H vs Q E hr h => ?_)
  · obtain ⟨x, y, p, q, rfl, _⟩ := h
    rfl
  · obtain ⟨x, y, p, q, rfl, pa, pb, k⟩ := h
    obtain ⟨dx, t, hx, ht⟩ := id pa
    obtain ⟨dy, u, hy, hu⟩ := id pb
    refine ⟨_, (pss_one (ps_ret (pe_make T.mk_Pupil (ok_Pupil_init T) (hr.mono (by decide)) (by rfl) T.g_Pupil T.b_Pupil_init .nil pass0 (pa_cons (pe_lc (own := [("question", 2)]) (g := gName 2) (tt := (tTest (tOp (rIn K true) (tVar 2) (tFld K (tVar 1) "rights")))) (te := (tVar 2)) rfl sc_Pupil_sub.nd (pi_tup (pe_fld (pv 0) (by rfl))) (blkOk_by (N := N_Pupil_sub) (sc := defScope s_Pupil_sub) (by decide +kernel)) (fun _ _ _ _ _ => pg_name (i := 2) sc_Pupil_sub.nd rfl (Or.inl rfl)) (fun _ _ _ _ _ => by exact (pts_one (pt_cmpR op_notIn_seq (pv 2) (pe_fld (pv 1) (by rfl)) (by with_unfolding_all rfl)))) (fun _ _ _ _ _ => by exact (pv 2))) pa_nil)))), ?_⟩
    refine ⟨_, rfl, x, _, dx, _, _, rfl, hx, T.cl_Pupil, T.nA_Pupil_rights, rfl, t, rfl, ⟨_, tup_of ht⟩, fun D nD => lcT_filter (K := K) (ns := norm p) (fun z => !decide (z ∈ norm q)) (tup_of ht) nD (by have := norm_len p; omega) (fun _ => rfl) ?_ ?_ ?_⟩
    · intro z hz H' e' R r
      exact ⟨_, rfl, _, rfl, y, _, dy, _, _, rfl, e' _ _ hy, T.cl_Pupil, T.nA_Pupil_rights, rfl, in_k (.inr (tup_of (e' _ _ hu))) ⟨_, rfl, r⟩⟩
    · intro z hz H' e' R r
      exact ⟨_, rfl, r⟩
    · intro H1 e1 h1
      refine pup_make (.inl (lst_of h1)) ?_ (qn_filter (qn_norm _)) fun z H2 nz e2 pz => k z H2 (e1.free nz) (e1.trans e2) (pz.eq ?_)
      · have := norm_len p
        have := List.length_filter_le (fun z => !decide (z ∈ norm q)) (norm p)
        omega
      · rw [norm_filter, norm_norm]
        refine norm_ext fun z h0 h1 => ?_
        simp only [fSub, List.mem_filter, mem_norm, Bool.not_eq_true', decide_eq_true_eq, decide_eq_false_iff_not, h0, h1, true_and]
theorem ok_Pupil_le (T : Txt K mg a) : FnOk P w K mg base CX0 4 a.f_Pupil_le a.d_Pupil_le P_Pupil_le (spRel a.c_Pupil fLe) := by
  refine T.F_Pupil_le.ok sc_Pupil_le (fun vs H Q E h => ?_) (fun cdv A outer s H vs Q E hr h => ?_)
  · obtain ⟨x, y, p, q, rfl, _⟩ := h
    rfl
  · obtain ⟨x, y, p, q, rfl, pa, pb, k⟩ := h
    obtain ⟨dx, t, hx, ht⟩ := id pa
    obtain ⟨dy, u, hy, hu⟩ := id pb
    refine ⟨_, (pss_one (ps_ret (pe_callB (cr_all rfl) (by rfl) T.z_all (by decide +kernel) (pa_cons (pe_lc (own := [("question", 2)]) (g := gName 2) (tt := tYes) (te := (tOp (rIn K false) (tVar 2) (tFld K (tVar 1) "rights"))) rfl sc_Pupil_le.nd (pi_tup (pe_fld (pv 0) (by rfl))) (blkOk_by (N := N_Pupil_le) (sc := defScope s_Pupil_le) (by decide +kernel)) (fun _ _ _ _ _ => pg_name (i := 2) sc_Pupil_le.nd rfl (Or.inl rfl)) (fun _ _ _ _ _ => pts_nil) (fun _ _ _ _ _ => by exact (pe_cmpR op_in_seq (pv 2) (pe_fld (pv 1) (by rfl)) (by with_unfolding_all rfl)))) pa_nil)))), ?_⟩
    refine ⟨_, rfl, x, _, dx, _, _, rfl, hx, T.cl_Pupil, T.nA_Pupil_rights, rfl, t, rfl, ⟨_, tup_of ht⟩, fun D nD => ?_⟩
    refine lc_tup (K := K) (a := t) (xs := (norm p).map V.int) (fun i H1 => Same H H1 ∧ H1 D = some (.lst ((((norm p).take i).map fun z => decide (z ∈ norm q)).map V.bl))) ⟨same_upd nD, upd_same⟩ (fun i H1 _ h => h.1.seqT (tup_of ht)) (fun i v H1 hi h => ?_) (fun H1 h => ?_)
    · obtain ⟨z, hz, rfl⟩ := get_map_int hi
      obtain ⟨e1, h1⟩ := h
      refine ⟨rfl, tyes ?_⟩
      refine ⟨_, rfl, _, rfl, y, _, dy, _, _, rfl, e1 _ _ hy, T.cl_Pupil, T.nA_Pupil_rights, rfl, in_k (.inr (tup_of (e1 _ _ hu))) ⟨_, h1, ?_, e1.mut nD, ?_⟩⟩
      · rw [List.length_map, List.length_map, List.length_take, sizeLine_eq]
        have := norm_len p
        omega
      · rw [upd_same, List.take_add_one, hz, List.map_append, List.map_append]
        rfl
    · obtain ⟨e1, h1⟩ := h
      rw [List.length_map, List.take_length] at h1
      refine ⟨D, _, rfl, lst_of h1, ?_⟩
      have ee : ((norm p).map fun z => decide (z ∈ norm q)).all id = fLe (norm p) (norm q) := by
        unfold fLe
        rw [List.all_map]
        rfl
      rw [ee]
      exact k H1 e1
theorem ok_Pupil_eq (T : Txt K mg a) : FnOk P w K mg base CX0 4 a.f_Pupil_eq a.d_Pupil_eq P_Pupil_eq (spRel a.c_Pupil fEq) := by
  refine T.F_Pupil_eq.ok sc_Pupil_eq (fun vs H Q E h => ?_) (fun cdv A outer s H vs Q E hr h => ?_)
  · obtain ⟨x, y, p, q, rfl, _⟩ := h
    rfl
  · obtain ⟨x, y, p, q, rfl, pa, pb, k⟩ := h
    obtain ⟨dx, t, hx, ht⟩ := id pa
    obtain ⟨dy, u, hy, hu⟩ := id pb
    refine ⟨_, (pss_one (ps_ret (pe_and (pe_callB call_isi (by rfl) T.z_isinstance (by decide +kernel) (pa_cons (pv 1) (pa_cons (pe_glob (v := .ref a.c_Pupil) (by rfl) T.g_Pupil rfl) pa_nil))) (pe_one (pe_cmpR (op_eqD hr.units) (pe_fld (pv 0) (by rfl)) (pe_fld (pv 1) (by rfl)) (nomark _)))))), ?_⟩
    refine ⟨_, rfl, _, .ref a.c_Pupil, _, _, true, rfl, .own _, .base (.ins hy T.cl_Pupil T.ic_Pupil.1 T.ic_Pupil.2.1 T.ic_Pupil.2.2.1 T.ic_Pupil.2.2.2), T.is_Pupil, _, rfl, iteT ?_⟩
    refine ⟨_, rfl, x, _, dx, _, _, rfl, hx, T.cl_Pupil, T.nA_Pupil_rights, rfl, _, rfl, y, _, dy, _, _, rfl, hy, T.cl_Pupil, T.nA_Pupil_rights, rfl, ?_⟩
    exact eqD_tup (tup_of ht) (tup_of hu) (k H (Same.refl H))
theorem ok_Pupil_contains (T : Txt K mg a) : FnOk P w K mg base CX0 1 a.f_Pupil_contains a.d_Pupil_contains P_Pupil_contains (spHas a.c_Pupil) := by
  refine T.F_Pupil_contains.ok sc_Pupil_contains (fun vs H Q E h => ?_) (fun cdv A outer s H vs Q E hr h => ?_)
  · obtain ⟨x, p, z, rfl, _⟩ := h
    rfl
  · obtain ⟨x, p, z, rfl, ⟨dx, t, hx, ht⟩, k⟩ := h
    refine ⟨_, (pss_one (ps_ret (pe_cmpR op_in_seq (pv 1) (pe_fld (pv 0) (by rfl)) (by with_unfolding_all rfl)))), ?_⟩
    exact ⟨_, rfl, _, rfl, x, _, dx, _, _, rfl, hx, T.cl_Pupil, T.nA_Pupil_rights, rfl, in_k (.inr (tup_of ht)) k⟩
theorem ok_Pupil_len (T : Txt K mg a) : FnOk P w K mg base CX0 1 a.f_Pupil_len a.d_Pupil_len P_Pupil_len (spLen a.c_Pupil) := by
  refine T.F_Pupil_len.ok sc_Pupil_len (fun vs H Q E h => ?_) (fun cdv A outer s H vs Q E hr h => ?_)
  · obtain ⟨x, p, rfl, _⟩ := h
    rfl
  · obtain ⟨x, p, rfl, ⟨dx, t, hx, ht⟩, k⟩ := h
    refine ⟨_, (pss_one (ps_ret (pe_callB call_len_seq (by rfl) T.z_len (by decide +kernel) (pa_cons (pe_fld (pv 0) (by rfl)) pa_nil)))), ?_⟩
    refine ⟨_, rfl, x, _, dx, _, _, rfl, hx, T.cl_Pupil, T.nA_Pupil_rights, rfl, t, _, rfl, .inr (tup_of ht), ?_⟩
    rw [List.length_map]
    exact k
theorem ok_Pupil_added (T : Txt K mg a) : FnOk P w K mg base CX0 4 a.f_Pupil_added a.d_Pupil_added P_Pupil_added (spAdded a.c_Pupil) := by
  refine T.F_Pupil_added.ok sc_Pupil_added (fun vs H Q E h => ?_) (fun cdv A outer s H vs Q E hr h => ?_)
  · obtain ⟨x, p, z, rfl, _⟩ := h
    rfl
  · obtain ⟨x, p, z, rfl, ⟨dx, t, hx, ht⟩, z0, z1, k⟩ := h
    refine ⟨_, (pss_one (ps_ret (pe_make T.mk_Pupil (ok_Pupil_init T) (hr.mono (by decide)) (by rfl) T.g_Pupil T.b_Pupil_init .nil pass0 (pa_cons (pe_op op_catA (pe_fld (pv 0) (by rfl)) (pe_tup (pa_cons (pv 1) pa_nil))) pa_nil)))), ?_⟩
    refine ⟨_, rfl, x, _, dx, _, _, rfl, hx, T.cl_Pupil, T.nA_Pupil_rights, rfl, _, rfl, by show 1 ≤ sizeLine; decide, fun q nq => ?_⟩
    have e1 := same_upd nq (o := .tup [.int z])
    refine catA_k (tup_of (e1 _ _ ht)) (ys := [.int z]) (tup_of upd_same) ?_ fun r H1 e2 hr1 => ?_
    · rw [List.length_map, sizeLine_eq]
      have := norm_len p
      show _ + 1 ≤ _
      omega
    · have hr2 : SqT K H1 r ((norm p ++ [z]).map V.int) := by rw [List.map_append]; exact hr1
      refine pup_make (.inr hr2) ?_ (qn_append (qn_norm _) fun y hy => by rw [List.mem_singleton.mp hy]; exact ⟨z0, z1⟩) fun y H2 ny e3 py => k y H2 ((e1.trans e2).free ny) ((e1.trans e2).trans e3) (py.eq ?_)
      · rw [List.length_append]
        have := norm_len p
        show _ + 1 ≤ _
        omega
      · refine norm_ext fun y h0 h1 => ?_
        simp only [List.mem_append, mem_norm, h0, h1, true_and, and_self]
theorem ok_l_pool (T : Txt K mg a) : FnOk P w K mg base CX0 1 a.f_l_pool a.d_l_pool P_l_pool (spPool K) := by
  refine T.F_l_pool.ok sc_l_pool (fun vs H Q E h => ?_) (fun cdv A outer s H vs Q E hr h => ?_)
  · obtain ⟨x, ns, rfl, _⟩ := h
    rfl
  · obtain ⟨x, ns, rfl, hx, k⟩ := h
    refine ⟨_, (pss_one (ps_ret (pe_lst (pa_cons (pv 0) (pa_cons pe_int (pa_cons pe_int (pa_cons pe_int (pa_cons pe_int pa_nil)))))))), ?_⟩
    refine ⟨_, rfl, by show 5 ≤ sizeLine; decide, fun p hp => ?_⟩
    exact k p _ hp (same_upd hp) ⟨x, ns, 0, 0, 0, 7, hx.gd (same_upd hp).gd, upd_same, by omega, by omega, by omega, by omega, by omega, by omega, by omega⟩
theorem ok_l_draw (T : Txt K mg a) : FnOk P w K mg base CX0 1 a.f_l_draw a.d_l_draw P_l_draw (spDraw K) := by
  refine T.F_l_draw.ok sc_l_draw (fun vs H Q E h => ?_) (fun cdv A outer s H vs Q E hr h => ?_)
  · obtain ⟨p, c, lim, rfl, _⟩ := h
    rfl
  · obtain ⟨p, c, lim, rfl, ⟨sa, ns, c', i, b, st, hsa, hp, c0, c1, i0, i1, b0, s0, s1⟩, hc, l0, l1, k⟩ := h
    refine ⟨_, (Evl.pss_cut (ps_asg (pe_op op_add (pe_ix ix_list (pv 0) pe_int (by intro _ _; rfl)) pe_int) (pg_sub (pv 0) pe_int set_list))
  (Evl.pss_cut (ps_if (PW.pt (pw_and (pt_cmpR op_eq (pe_ix ix_list (pv 0) pe_int (by intro _ _; rfl)) pe_int (nomark _)) (pw_and1 (pt_cmpR op_lt (pe_ix ix_list (pv 0) pe_int (by intro _ _; rfl)) (pe_callB call_len_seq (by rfl) T.z_len (by decide +kernel) (pa_cons (pe_ix ix_list (pv 0) pe_int (by intro _ _; rfl)) pa_nil)) (nomark _)))))
    (pss_cons (ps_set (i := 2) sc_l_draw.nd rfl (Or.inl rfl) (pe_callB call_abs (by rfl) T.z_abs (by decide +kernel) (pa_cons (pe_ix ix_list (pe_ix ix_list (pv 0) pe_int (by intro _ _; rfl)) (pe_ix ix_list (pv 0) pe_int (by intro _ _; rfl)) (by intro _ _; rfl)) pa_nil)))
  (pss_cons (ps_asg (pe_op op_add (pe_ix ix_list (pv 0) pe_int (by intro _ _; rfl)) pe_int) (pg_sub (pv 0) pe_int set_list))
  (pss_one (ps_if (pt_cmpR op_ge (pv 2) (pe_op op_pow pe_int pe_int) (nomark _))
    (pss_one (ps_asg (pv 2) (pg_sub (pv 0) pe_int set_list)))
    (pss_one (ps_asg (pe_op op_mod (pe_callTy call_int1 (by rfl) T.z_int (by decide +kernel) (pa_cons (pe_op op_mul (pe_op op_add (pe_op op_add (pe_ix ix_list (pv 0) pe_int (by intro _ _; rfl)) (pv 2)) pe_int) pe_int) pa_nil)) pe_int) (pg_sub (pv 0) pe_int set_list)))))))
    pss_nil)
  (pss_cons (ps_if (pt_cmpR op_gt (pe_ix ix_list (pv 0) pe_int (by intro _ _; rfl)) pe_int (nomark _))
    (pss_cons (ps_set (i := 3) sc_l_draw.nd rfl (Or.inl rfl) (pe_op op_mod (pe_callTy call_int1 (by rfl) T.z_int (by decide +kernel) (pa_cons (pe_ix ix_list (pv 0) pe_int (by intro _ _; rfl)) pa_nil)) (pv 1)))
  (pss_cons (ps_asg (pe_op op_fdivW (pe_ix ix_list (pv 0) pe_int (by intro _ _; rfl)) (pv 1)) (pg_sub (pv 0) pe_int set_list))
  (pss_one (ps_ret (pv 3)))))
    pss_nil)
  (pss_cons (ps_set (i := 4) sc_l_draw.nd rfl (Or.inl rfl) (pe_op op_mod (pe_callTy call_int1 (by rfl) T.z_int (by decide +kernel) (pa_cons (pe_op op_pow (pe_op op_add (pe_ix ix_list (pv 0) pe_int (by intro _ _; rfl)) (pe_op op_mul (pe_ix ix_list (pv 0) pe_int (by intro _ _; rfl)) pe_int)) pe_int) pa_nil)) pe_int))
  (pss_one (ps_ret (pe_op op_mod (pe_callTy call_int1 (by rfl) T.z_int (by decide +kernel) (pa_cons (pe_op op_fdivW (pv 4) pe_int) pa_nil)) (pv 1)))))))), ?_⟩
    have hp : H p = some (pl sa c' i b st) := hp
    -- pool[1] = pool[1] + 1
    refine ⟨fun σ H1 => σ = [some (.ref p), some (.int lim), none, none, none] ∧ H1 = upd H p (pl sa (c' + 1) i b st), ?_, ?_⟩
    · exact ⟨_, rfl, p, _, 1, _, rfl, rfl, lst_of hp, atI1, c', 1, rfl, rfl, _, rfl, p, _, 1, 1, rfl, rfl, hp, rfl, rfl, rfl⟩
    · rintro σ H1 ⟨rfl, rfl⟩
      -- the cell
      refine ⟨fun σ H2 => ∃ (i' b' st' : Int) (v : Option V), σ = [some (.ref p), some (.int lim), v, none, none] ∧ H2 = upd H p (pl sa (c' + 1) i' b' st') ∧ 0 ≤ i' ∧ i' ≤ (ns.length : Int) ∧ 0 ≤ b' ∧ 0 ≤ st' ∧ st' < 2147483629, ?_, ?_⟩
      · have hP : upd H p (pl sa (c' + 1) i b st) p = some (pl sa (c' + 1) i b st) := upd_same
        have hS : SqL K (upd H p (pl sa (c' + 1) i b st)) sa (ns.map V.int) := (hsa.gd (gd_pool hp)).seq
        refine ⟨_, rfl, p, _, 3, _, rfl, rfl, lst_of hP, atI3, rfl, _, rfl, ?_⟩
        refine ite2 (fun e1 => ?_) (fun e1 => ?_)
        · refine ⟨_, rfl, p, _, 2, _, rfl, rfl, lst_of hP, atI2, _, rfl, p, _, 0, _, rfl, rfl, lst_of hP, atI0, sa, _, rfl, .inl hS, i, _, rfl, rfl, _, rfl, ?_⟩
          refine ite2 (fun e2 => ?_) (fun e2 => ?_)
          · have hi : i < (ns.length : Int) := by
              have := of_decide_eq_true e2
              rw [List.length_map] at this
              exact this
            obtain ⟨j, rfl⟩ : ∃ j : Nat, i = (j : Int) := ⟨i.toNat, by omega⟩
            have hj : j < ns.length := by omega
            have hg : (ns.map V.int)[j]? = some (.int ns[j]) := by
              rw [List.getElem?_map, List.getElem?_eq_getElem hj]
              rfl
            -- cell = abs(pool[0][pool[2]])
            refine ⟨_, rfl, p, _, 0, _, rfl, rfl, lst_of hP, atI0, _, rfl, p, _, 2, _, rfl, rfl, lst_of hP, atI2, sa, _, (j : Int), _, rfl, rfl, hS, atI_nat hg, _, rfl, ?_⟩
            -- pool[2] = pool[2] + 1
            refine ⟨_, rfl, p, _, 2, _, rfl, rfl, lst_of hP, atI2, (j : Int), 1, rfl, rfl, _, rfl, p, _, 2, 2, rfl, rfl, hP, rfl, ?_⟩
            have hP2 : upd (upd H p (pl sa (c' + 1) (j : Int) b st)) p (pl sa (c' + 1) ((j : Int) + 1) b st) p = some (pl sa (c' + 1) ((j : Int) + 1) b st) := upd_same
            have c0' : 0 ≤ (if ns[j] < 0 then -ns[j] else ns[j]) := by split <;> omega
            refine ⟨_, rfl, _, 18, rfl, rfl, ⟨by decide, by decide, by decide⟩, _, _, rfl, rfl, _, rfl, ?_⟩
            refine ite2 (fun e3 => ?_) (fun e3 => ?_)
            · refine ⟨_, rfl, _, rfl, p, _, 3, 3, rfl, rfl, hP2, rfl, ?_⟩
              refine ⟨(j : Int) + 1, _, st, _, rfl, ?_, by omega, by omega, c0', s0, s1⟩
              rw [upd_upd, upd_upd]
              rfl
            · have hlt : (if ns[j] < 0 then -ns[j] else ns[j]) < 10 ^ (18 : Int).toNat := by
                refine Int.not_le.mp fun hh => e3 (decide_eq_true hh)
              refine ⟨_, rfl, p, _, 4, _, rfl, rfl, lst_of hP2, atI4, _, rfl, st, _, rfl, rfl, _, 1, rfl, rfl, _, 48271, rfl, rfl, .inr ⟨by decide, by decide⟩, .inl ⟨_, rfl, _, 2147483629, rfl, rfl, (by show (0 : Int) < 2147483629; decide), _, rfl, p, _, 4, 4, rfl, rfl, hP2, rfl, ?_⟩⟩
              refine ⟨(j : Int) + 1, b, ((st + if ns[j] < 0 then -ns[j] else ns[j]) + 1) * 48271 % 2147483629, _, rfl, ?_, by omega, by omega, b0, Int.emod_nonneg _ (by decide), Int.emod_lt_of_pos _ (by decide)⟩
              rw [upd_upd, upd_upd]
              rfl
          · exact ⟨i, b, st, _, rfl, rfl, i0, i1, b0, s0, s1⟩
        · exact ⟨i, b, st, _, rfl, rfl, i0, i1, b0, s0, s1⟩
      · rintro σ H2 ⟨i', b', st', v, rfl, rfl, i0', i1', b0', s0', s1'⟩
        have hP : upd H p (pl sa (c' + 1) i' b' st') p = some (pl sa (c' + 1) i' b' st') := upd_same
        have fin : ∀ (b'' : Int) (r : Int), 0 ≤ b'' → 0 ≤ r → r < lim → Q (.int r) (upd H p (pl sa (c' + 1) i' b'' st')) := fun b'' r hb hr0 hr1 =>
          k _ r (gd_pool hp) ⟨sa, ns, c' + 1, i', b'', st', hsa.gd (gd_pool hp), upd_same, by omega, by omega, i0', i1', hb, s0', s1'⟩ hr0 hr1
        refine ⟨_, rfl, p, _, 3, _, rfl, rfl, lst_of hP, atI3, b', 0, rfl, rfl, _, rfl, ?_⟩
        refine ite2 (fun e1 => ?_) (fun e1 => ?_)
        · refine ⟨_, rfl, p, _, 3, _, rfl, rfl, lst_of hP, atI3, .inl ⟨_, rfl, _, rfl, b', lim, rfl, rfl, l0, ?_⟩⟩
          refine ⟨_, rfl, p, _, 3, _, rfl, rfl, lst_of hP, atI3, _, rfl, b', lim, rfl, rfl, ⟨l0, ?_⟩, _, rfl, p, _, 3, 3, rfl, rfl, hP, rfl, _, rfl, ?_⟩
          · exact (wide_div (i := 0) (b := 200) l0 (by omega) (by decide) (by decide)).2
          · have := fin (b' / lim) (b' % lim) (Int.ediv_nonneg b0' (by omega)) (Int.emod_nonneg _ (by omega)) (Int.emod_lt_of_pos _ l0)
            rw [upd_upd]
            exact this
        · refine ⟨_, rfl, p, _, 4, _, rfl, rfl, lst_of hP, atI4, _, rfl, p, _, 1, _, rfl, rfl, lst_of hP, atI1, c' + 1, 7919, rfl, rfl, .inr ⟨by decide, by decide⟩, st', _, rfl, rfl, _, 3, rfl, rfl, ⟨by decide, by decide, ?_⟩, .inl ⟨_, rfl, _, 2147483647, rfl, rfl, (by show (0 : Int) < 2147483647; decide), ?_⟩⟩
          · unfold LIM at hc
            omega
          · refine ⟨_, rfl, _, 16, rfl, rfl, ⟨by decide, by decide⟩, .inl ⟨_, rfl, _, rfl, _, lim, rfl, rfl, l0, ?_⟩⟩
            exact fin b' _ b0' (Int.emod_nonneg _ (by omega)) (Int.emod_lt_of_pos _ l0)
theorem ok_l_set (T : Txt K mg a) : FnOk P w K mg base CX0 1 a.f_l_set a.d_l_set P_l_set (spSet K) := by
  refine T.F_l_set.ok sc_l_set (fun vs H Q E h => ?_) (fun cdv A outer s H vs Q E hr h => ?_)
  · obtain ⟨q, l, rfl, _⟩ := h
    rfl
  · obtain ⟨q, l, rfl, hq, k⟩ := h
    refine ⟨_, (pss_one (ps_ret (pe_lc (own := [("_law_name", 1)]) (g := gName 1) (tt := (tTest (tOp (rIn K false) (tVar 1) (tVar 0)))) (te := (tVar 1)) rfl sc_l_set.nd (pi_range1 (by rfl) T.z_range (pa_cons pe_int pa_nil)) (blkOk_by (N := N_l_set) (sc := defScope s_l_set) (by decide +kernel)) (fun _ _ _ _ _ => pg_name (i := 1) sc_l_set.nd rfl (Or.inl rfl)) (fun _ _ _ _ _ => by exact (pts_one (pt_cmpR op_in_seq (pv 1) (pv 0) (by with_unfolding_all rfl)))) (fun _ _ _ _ _ => by exact (pv 1))))), ?_⟩
    refine ⟨48, rfl, by decide, by decide, fun D nD => lcR_filter (n := 48) (fun x => decide (x ∈ l)) nD (by decide) (fun _ => rfl) ?_ ?_ ?_⟩
    · intro z hz H' e' R r
      exact ⟨_, rfl, _, rfl, in_k (.inl (e'.seq hq)) ⟨_, rfl, r⟩⟩
    · intro z hz H' e' R r
      exact ⟨_, rfl, r⟩
    · intro H1 e1 h1
      exact k H1 D nD e1 h1
theorem ok_l_after (T : Txt K mg a) : FnOk P w K mg base CX0 5 a.f_l_after a.d_l_after P_l_after (spAfter K a.c_Pupil) := by
  refine T.F_l_after.ok sc_l_after (fun vs H Q E h => ?_) (fun cdv A outer s H vs Q E hr h => ?_)
  · obtain ⟨p, PL, SL, c, xs, ys, rfl, _⟩ := h
    rfl
  · obtain ⟨p, PL, SL, c, xs, ys, rfl, hp, hc, ht, k⟩ := h
    refine ⟨_, (Evl.pss_cut (ps_set (i := 3) sc_l_after.nd rfl (Or.inl rfl) (pe_call (ok_l_draw T) (hr.mono (by decide)) (by rfl) T.g_l_draw T.k_l_draw T.b_l_draw .nil pass0 (pa_cons (pv 0) (pa_cons pe_int pa_nil))))
  (Evl.pss_cut (ps_set (i := 4) sc_l_after.nd rfl (Or.inl rfl) (pe_call (ok_l_draw T) (hr.mono (by decide)) (by rfl) T.g_l_draw T.k_l_draw T.b_l_draw .nil pass0 (pa_cons (pv 0) (pa_cons pe_int pa_nil))))
  (Evl.pss_cut (ps_set (i := 5) sc_l_after.nd rfl (Or.inl rfl) (pe_call (ok_l_draw T) (hr.mono (by decide)) (by rfl) T.g_l_draw T.k_l_draw T.b_l_draw .nil pass0 (pa_cons (pv 0) (pa_cons pe_int pa_nil))))
  (Evl.pss_cut (ps_set (i := 6) sc_l_after.nd rfl (Or.inl rfl) (pe_ix ix_list (pv 1) (pv 3) (by intro _ _; rfl)))
  (Evl.pss_cut (ps_set (i := 7) sc_l_after.nd rfl (Or.inl rfl) (pe_ix ix_list (pv 1) (pv 4) (by intro _ _; rfl)))
  (Evl.pss_cut (ps_set (i := 8) sc_l_after.nd rfl (Or.inl rfl) (pe_ix ix_list (pv 2) (pv 3) (by intro _ _; rfl)))
  (Evl.pss_cut (ps_set (i := 9) sc_l_after.nd rfl (Or.inr rfl) (pe_ix ix_list (pv 2) (pv 4) (by intro _ _; rfl)))
  (Evl.pss_cut (ps_if (pt_cmpR op_eq (pv 5) pe_int (nomark _))
    (pss_one (ps_ret (pe_tup (pa_cons (pe_op (op_own (ok_Pupil_or T) (hr.mono (by decide)) T.s_Pupil_or T.i_Pupil_or T.sf_Pupil T.b_Pupil_or pass0) (pv 6) (pv 7)) (pa_cons (pe_call (ok_l_set T) (hr.mono (by decide)) (by rfl) T.g_l_set T.k_l_set T.b_l_set .nil pass0 (pa_cons (pe_op op_cat (pv 8) (pv 9)) pa_nil)) pa_nil)))))
    pss_nil)
  (Evl.pss_cut (ps_if (pt_cmpR op_eq (pv 5) pe_int (nomark _))
    (pss_one (ps_ret (pe_tup (pa_cons (pe_op (op_own (ok_Pupil_and T) (hr.mono (by decide)) T.s_Pupil_and T.i_Pupil_and T.sf_Pupil T.b_Pupil_and pass0) (pv 6) (pv 7)) (pa_cons (pe_lc (own := [("_law_name", 12)]) (g := gName 12) (tt := (tTest (tOp (rIn K false) (tVar 12) (tVar 9)))) (te := (tVar 12)) rfl sc_l_after.nd (pi_list (pv 8)) (blkOk_by (N := N_l_after) (sc := defScope s_l_after) (by decide +kernel)) (fun _ _ _ _ _ => pg_name (i := 12) sc_l_after.nd rfl (Or.inl rfl)) (fun _ _ _ _ _ => by exact (pts_one (pt_cmpR op_in_seq (pv 12) (pv 9) (by with_unfolding_all rfl)))) (fun _ _ _ _ _ => by exact (pv 12))) pa_nil)))))
    pss_nil)
  (Evl.pss_cut (ps_if (pt_cmpR op_eq (pv 5) pe_int (nomark _))
    (pss_one (ps_ret (pe_tup (pa_cons (pe_op (op_own (ok_Pupil_sub T) (hr.mono (by decide)) T.s_Pupil_sub T.i_Pupil_sub T.sf_Pupil T.b_Pupil_sub pass0) (pv 6) (pv 7)) (pa_cons (pe_lc (own := [("_law_name", 12)]) (g := gName 12) (tt := (tTest (tOp (rIn K true) (tVar 12) (tVar 9)))) (te := (tVar 12)) rfl sc_l_after.nd (pi_list (pv 8)) (blkOk_by (N := N_l_after) (sc := defScope s_l_after) (by decide +kernel)) (fun _ _ _ _ _ => pg_name (i := 12) sc_l_after.nd rfl (Or.inl rfl)) (fun _ _ _ _ _ => by exact (pts_one (pt_cmpR op_notIn_seq (pv 12) (pv 9) (by with_unfolding_all rfl)))) (fun _ _ _ _ _ => by exact (pv 12))) pa_nil)))))
    pss_nil)
  (Evl.pss_cut (ps_if (pt_cmpR op_eq (pv 5) pe_int (nomark _))
    (pss_cons (ps_set (i := 10) sc_l_after.nd rfl (Or.inl rfl) (pe_call (ok_l_draw T) (hr.mono (by decide)) (by rfl) T.g_l_draw T.k_l_draw T.b_l_draw .nil pass0 (pa_cons (pv 0) (pa_cons pe_int pa_nil))))
  (pss_one (ps_ret (pe_tup (pa_cons (pe_meth (pv 6) T.cl_Pupil T.m_Pupil_added (ok_Pupil_added T) (hr.mono (by decide)) T.b_Pupil_added .nil pass0 (pa_cons (pv 10) pa_nil)) (pa_cons (pe_call (ok_l_set T) (hr.mono (by decide)) (by rfl) T.g_l_set T.k_l_set T.b_l_set .nil pass0 (pa_cons (pe_op op_cat (pv 8) (pe_lst (pa_cons (pv 10) pa_nil))) pa_nil)) pa_nil))))))
    pss_nil)
  (Evl.pss_cut (ps_setLc (i := 11) (own := [("_law_k", 13)]) (g := gName 13) (tt := tYes) (te := (tCall (spDraw K) [] E0 (tCons (tVar 0) (tCons (tC (.int 48)) tNil)))) rfl sc_l_after.nd rfl rfl (sw_true rfl rfl rfl (by decide +kernel)) (pi_range1 (by rfl) T.z_range (pa_cons (pe_call (ok_l_draw T) (hr.mono (by decide)) (by rfl) T.g_l_draw T.k_l_draw T.b_l_draw .nil pass0 (pa_cons (pv 0) (pa_cons pe_int pa_nil))) pa_nil)) (blkOk_by (N := N_l_after) (sc := defScope s_l_after) (by decide +kernel)) (fun _ _ _ _ _ => pg_name (i := 13) sc_l_after.nd rfl (Or.inl rfl)) (fun _ _ _ _ _ => pts_nil) (fun _ _ _ _ _ => by exact (pe_call (ok_l_draw T) (hr.mono (by decide)) (by rfl) T.g_l_draw T.k_l_draw T.b_l_draw .nil pass0 (pa_cons (pv 0) (pa_cons pe_int pa_nil)))))
  (pss_one (ps_ret (pe_tup (pa_cons (pe_make T.mk_Pupil (ok_Pupil_init T) (hr.mono (by decide)) (by rfl) T.g_Pupil T.b_Pupil_init .nil pass0 (pa_cons (pv 11) pa_nil)) (pa_cons (pe_call (ok_l_set T) (hr.mono (by decide)) (by rfl) T.g_l_set T.k_l_set T.b_l_set .nil pass0 (pa_cons (pv 11) pa_nil)) pa_nil))))))))))))))))), ?_⟩
    refine ⟨fun σ H1 => ∃ r : Int, σ = [some (.ref p), some (.ref PL), some (.ref SL), some (.int r), none, none, none, none, none, none, none, none, none, none] ∧ 0 ≤ r ∧ r < 3 ∧ Gd H H1 ∧ PoolOk K p (c + 1) H1, ?_, ?_⟩
    · exact ⟨_, rfl, p, c, 3, rfl, hp, by omega, by decide, by decide, fun H1 r g1 p1 r0 r1 => ⟨r, rfl, r0, r1, g1, p1⟩⟩
    rintro σ H1 ⟨r, rfl, r0, r1, g1, p1⟩
    refine ⟨fun σ H1 => ∃ u : Int, σ = [some (.ref p), some (.ref PL), some (.ref SL), some (.int r), some (.int u), none, none, none, none, none, none, none, none, none] ∧ 0 ≤ u ∧ u < 3 ∧ Gd H H1 ∧ PoolOk K p (c + 2) H1, ?_, ?_⟩
    · exact ⟨_, rfl, p, c + 1, 3, rfl, p1, by omega, by decide, by decide, fun H2 r g2 p2 r0 r1 => ⟨r, rfl, r0, r1, g1.trans g2, p2⟩⟩
    rintro σ H2 ⟨u, rfl, u0, u1, g2, p2⟩
    refine ⟨fun σ H1 => ∃ v : Int, σ = [some (.ref p), some (.ref PL), some (.ref SL), some (.int r), some (.int u), some (.int v), none, none, none, none, none, none, none, none] ∧ Gd H H1 ∧ PoolOk K p (c + 3) H1, ?_, ?_⟩
    · exact ⟨_, rfl, p, c + 2, 5, rfl, p2, by omega, by decide, by decide, fun H3 r g3 p3 r0 r1 => ⟨r, rfl, g2.trans g3, p3⟩⟩
    rintro σ H3 ⟨v, rfl, g3, p3⟩
    have t3 := ht.gd g3
    obtain ⟨hPL, hSL, lx, ly, hpr⟩ := id t3
    obtain ⟨j1, x1, gx1, rfl, hj1, ax1⟩ := at_ref (xs := xs) r0 (by omega)
    obtain ⟨j2, x2, gx2, rfl, hj2, ax2⟩ := at_ref (xs := xs) u0 (by omega)
    obtain ⟨j1', y1, gy1, e1', _, ay1⟩ := at_ref (xs := ys) r0 (by omega)
    obtain ⟨j2', y2, gy2, e2', _, ay2⟩ := at_ref (xs := ys) u0 (by omega)
    obtain rfl : j1 = j1' := by omega
    obtain rfl : j2 = j2' := by omega
    obtain ⟨l, px1, hy1⟩ := hpr _ _ _ gx1 gy1
    obtain ⟨m, px2, hy2⟩ := hpr _ _ _ gx2 gy2
    refine ⟨fun σ H1 => σ = [some (.ref p), some (.ref PL), some (.ref SL), some (.int j1), some (.int j2), some (.int v), some (.ref x1), none, none, none, none, none, none, none] ∧ H1 = H3, ⟨_, rfl, _, rfl, PL, _, _, _, rfl, rfl, lst_of hPL, ax1, rfl, rfl⟩, ?_⟩
    rintro σ H4 ⟨rfl, rfl⟩
    refine ⟨fun σ H1 => σ = [some (.ref p), some (.ref PL), some (.ref SL), some (.int j1), some (.int j2), some (.int v), some (.ref x1), some (.ref x2), none, none, none, none, none, none] ∧ H1 = H4, ⟨_, rfl, _, rfl, PL, _, _, _, rfl, rfl, lst_of hPL, ax2, rfl, rfl⟩, ?_⟩
    rintro σ H3 ⟨rfl, rfl⟩
    refine ⟨fun σ H1 => σ = [some (.ref p), some (.ref PL), some (.ref SL), some (.int j1), some (.int j2), some (.int v), some (.ref x1), some (.ref x2), some (.ref y1), none, none, none, none, none] ∧ H1 = H3, ⟨_, rfl, _, rfl, SL, _, _, _, rfl, rfl, lst_of hSL, ay1, rfl, rfl⟩, ?_⟩
    rintro σ H4 ⟨rfl, rfl⟩
    refine ⟨fun σ H1 => σ = [some (.ref p), some (.ref PL), some (.ref SL), some (.int j1), some (.int j2), some (.int v), some (.ref x1), some (.ref x2), some (.ref y1), some (.ref y2), none, none, none, none] ∧ H1 = H4, ⟨_, rfl, _, rfl, SL, _, _, _, rfl, rfl, lst_of hSL, ay2, rfl, rfl⟩, ?_⟩
    rintro σ H3 ⟨rfl, rfl⟩
    have fin : ∀ H5 x y n, Same H3 H5 → H3 y = none → PupAt a.c_Pupil H5 x n → H5 y = some (.lst ((norm n).map V.int)) → ∀ q, H5 q = none → Q (.ref q) (upd H5 q (.tup [.ref x, .ref y])) := fun H5 x y n e5 ny px hy q nq =>
      k _ q x y (g3.trans (e5.trans (same_upd nq)).gd) ((p3.same (e5.trans (same_upd nq))).mono (by omega)) upd_same (fresh_gd g3 ny) ⟨n, px.same (same_upd nq), (same_upd nq) _ _ hy⟩
    have hl1 := norm_len l
    have hl2 := norm_len m
    -- |
    refine ⟨fun σ H1 => σ = [some (.ref p), some (.ref PL), some (.ref SL), some (.int j1), some (.int j2), some (.int v), some (.ref x1), some (.ref x2), some (.ref y1), some (.ref y2), none, none, none, none] ∧ H1 = H3, ⟨_, rfl, rfl, _, rfl, ite2 (fun _ => ?_) (fun _ => ⟨rfl, rfl⟩)⟩, ?_⟩
    · refine ⟨_, rfl, _, rfl, own_bin px1 px2 ?_⟩
      intro z H4 nz e4 pz
      refine ⟨_, rfl, _, rfl, y1, y2, _, _, rfl, rfl, e4 _ _ hy1, e4 _ _ hy2, by rw [List.length_map, List.length_map, sizeLine_eq]; omega, fun q nq => ?_⟩
      refine ⟨q, norm l ++ norm m, rfl, lst_of (by rw [upd_same, List.map_append]), fun H5 D nD e5 hD => ?_⟩
      have e6 := (same_upd nq).trans e5
      refine ⟨by show 2 ≤ sizeLine; decide, fun t nt => fin H5 z D (fOr l m) (e4.trans e6) ?_ (pz.same e6) (by rw [hD, norm_or]; rfl) t nt⟩
      exact e4.free ((same_upd nq).free nD)
    rintro σ H4 ⟨rfl, rfl⟩
    -- &
    refine ⟨fun σ H1 => σ = [some (.ref p), some (.ref PL), some (.ref SL), some (.int j1), some (.int j2), some (.int v), some (.ref x1), some (.ref x2), some (.ref y1), some (.ref y2), none, none, none, none] ∧ H1 = H4, ⟨_, rfl, rfl, _, rfl, ite2 (fun _ => ?_) (fun _ => ⟨rfl, rfl⟩)⟩, ?_⟩
    · refine ⟨_, rfl, _, rfl, own_bin px1 px2 ?_⟩
      intro z H5 nz e5 pz
      refine ⟨_, rfl, y1, rfl, ⟨_, lst_of (e5 _ _ hy1)⟩, fun D nD => lcL_filter (K := K) (ns := norm l) (fun x => decide (x ∈ norm m)) (lst_of (e5 _ _ hy1)) nD (by omega) (fun _ => rfl) ?_ ?_ ?_⟩
      · intro z hz H' e' R r
        exact ⟨_, rfl, _, rfl, in_k (.inl (lst_of (e' _ _ (e5 _ _ hy2)))) ⟨_, rfl, r⟩⟩
      · intro z hz H' e' R r
        exact ⟨_, rfl, r⟩
      · intro H6 e6 h6
        refine ⟨by show 2 ≤ sizeLine; decide, fun t nt => fin H6 z D (fAnd l m) (e5.trans e6) (e5.free nD) (pz.same e6) ?_ t nt⟩
        rw [h6, and_set]
        congr 3
        exact List.filter_congr fun y hy => by
          have := (mem_norm.mp hy).1
          rw [Bool.eq_iff_iff, decide_eq_true_eq, decide_eq_true_eq, mem_norm]
          exact ⟨fun a => a.2, fun a => ⟨this, a⟩⟩
    rintro σ H3 ⟨rfl, rfl⟩
    -- -
    refine ⟨fun σ H1 => σ = [some (.ref p), some (.ref PL), some (.ref SL), some (.int j1), some (.int j2), some (.int v), some (.ref x1), some (.ref x2), some (.ref y1), some (.ref y2), none, none, none, none] ∧ H1 = H3, ⟨_, rfl, rfl, _, rfl, ite2 (fun _ => ?_) (fun _ => ⟨rfl, rfl⟩)⟩, ?_⟩
    · refine ⟨_, rfl, _, rfl, own_bin px1 px2 ?_⟩
      intro z H5 nz e5 pz
      refine ⟨_, rfl, y1, rfl, ⟨_, lst_of (e5 _ _ hy1)⟩, fun D nD => lcL_filter (K := K) (ns := norm l) (fun x => !decide (x ∈ norm m)) (lst_of (e5 _ _ hy1)) nD (by omega) (fun _ => rfl) ?_ ?_ ?_⟩
      · intro z hz H' e' R r
        exact ⟨_, rfl, _, rfl, in_k (.inl (lst_of (e' _ _ (e5 _ _ hy2)))) ⟨_, rfl, r⟩⟩
      · intro z hz H' e' R r
        exact ⟨_, rfl, r⟩
      · intro H6 e6 h6
        refine ⟨by show 2 ≤ sizeLine; decide, fun t nt => fin H6 z D (fSub l m) (e5.trans e6) (e5.free nD) (pz.same e6) ?_ t nt⟩
        rw [h6, sub_set]
        congr 3
        exact List.filter_congr fun y hy => by
          have := (mem_norm.mp hy).1
          congr 1
          rw [Bool.eq_iff_iff, decide_eq_true_eq, decide_eq_true_eq, mem_norm]
          exact ⟨fun a => a.2, fun a => ⟨this, a⟩⟩
    rintro σ H4 ⟨rfl, rfl⟩
    -- added
    refine ⟨fun σ H1 => σ = [some (.ref p), some (.ref PL), some (.ref SL), some (.int j1), some (.int j2), some (.int v), some (.ref x1), some (.ref x2), some (.ref y1), some (.ref y2), none, none, none, none] ∧ H1 = H4, ⟨_, rfl, rfl, _, rfl, ite2 (fun _ => ?_) (fun _ => ⟨rfl, rfl⟩)⟩, ?_⟩
    · refine ⟨_, rfl, p, c + 3, 48, rfl, p3, by omega, by decide, by decide, fun H5 z g5 p5 z0 z1 => ?_⟩
      have px := px1.gd g5
      have hy := g5.1 _ _ (np_ints _) hy1
      obtain ⟨dx, t, hx, _⟩ := id px
      refine ⟨_, rfl, x1, dx, _, rfl, hx, rfl, _, rfl, x1, l, z, rfl, px, z0, z1, fun w H6 nw e6 pw => ?_⟩
      refine ⟨_, rfl, _, rfl, by show 1 ≤ sizeLine; decide, fun q nq => ?_⟩
      have e7 := e6.trans (same_upd nq (o := .lst [.int z]))
      refine ⟨y1, q, _, _, rfl, rfl, e7 _ _ hy, upd_same, by rw [List.length_map, sizeLine_eq]; show _ + 1 ≤ _; omega, fun q2 nq2 => ?_⟩
      refine ⟨q2, norm l ++ [z], rfl, lst_of (by rw [upd_same, List.map_append]; rfl), fun H8 D nD e8 hD => ⟨by show 2 ≤ sizeLine; decide, fun t nt => ?_⟩⟩
      have e9 := (e7.trans (same_upd nq2)).trans e8
      refine k _ t w D (g3.trans (g5.trans (e9.trans (same_upd nt)).gd)) ((p5.same (e9.trans (same_upd nt))).mono (by omega)) upd_same ?_ ⟨l ++ [z], (pw.same (((same_upd nq).trans (same_upd nq2)).trans e8)).same (same_upd nt), ?_⟩
      · exact fresh_gd g3 (fresh_gd g5 ((e7.trans (same_upd nq2)).free nD))
      · rw [(same_upd nt) _ _ hD]
        congr 3
        refine norm_ext fun y h0 h1 => ?_
        simp only [List.mem_append, mem_norm, h0, h1, true_and, and_self]
    rintro σ H3 ⟨rfl, rfl⟩
    -- a drawn list
    refine ⟨fun σ H1 => ∃ D n, σ = [some (.ref p), some (.ref PL), some (.ref SL), some (.int j1), some (.int j2), some (.int v), some (.ref x1), some (.ref x2), some (.ref y1), some (.ref y2), none, some (.ref D), none, none] ∧ Gd H3 H1 ∧ PoolOk K p (c + 50) H1 ∧ QsAt H1 D n ∧ n.length ≤ 20, ?_, ?_⟩
    · refine ⟨_, rfl, p, c + 3, 10, rfl, p3, by omega, by decide, by decide, fun H4 r g4 p4 r0 r1 => ⟨r, rfl, by omega, by omega, fun D nD => ?_⟩⟩
      refine lc_range (lo := 0) (n := r.toNat) (fun i H5 => ∃ n, H5 D = some (.lst (n.map V.int)) ∧ n.length = i ∧ Qn n ∧ Gd H4 H5 ∧ PoolOk K p (c + 4 + i) H5) ⟨[], upd_same, rfl, fun _ h => (nomatch h), (same_upd nD).gd, p4.upd nD⟩ (fun i H5 hi h => ?_) (fun H5 h => ?_)
      · obtain ⟨n, hD, hn, hq, g5, p5⟩ := h
        refine ⟨rfl, tyes ?_⟩
        refine ⟨_, rfl, p, c + 4 + i, 48, rfl, p5, by omega, by decide, by decide, fun H6 z g6 p6 z0 z1 => ?_⟩
        have hD6 := g6.1 _ _ (np_ints n) hD
        refine ⟨_, hD6, ?_, n ++ [z], ?_, ?_, ?_, (g5.trans g6).mut nD, (p6.mut hD6 (np_ints n)).mono (by omega)⟩
        · rw [List.length_map, sizeLine_eq]; omega
        · rw [upd_same, List.map_append]; rfl
        · rw [List.length_append, hn]; rfl
        · exact qn_append hq fun y hy => by rw [List.mem_singleton.mp hy]; exact ⟨z0, z1⟩
      · obtain ⟨n, hD, hn, hq, g5, p5⟩ := h
        exact ⟨D, n, rfl, g4.trans g5, p5.mono (by omega), ⟨hD, hq, by omega⟩, by omega⟩
    rintro σ H4 ⟨D, n, rfl, g4, p4, hD, hn⟩
    refine ⟨_, rfl, ?_⟩
    refine pup_make (.inl (lst_of hD.1)) (by omega) hD.2.1 ?_
    intro z H5 nz e5 pz
    refine ⟨_, rfl, D, n, rfl, lst_of (e5 _ _ hD.1), fun H6 D2 nD2 e6 hD2 => ⟨by show 2 ≤ sizeLine; decide, fun t nt => ?_⟩⟩
    have e7 := (e5.trans e6).trans (same_upd nt (o := .tup [.ref z, .ref D2]))
    exact k _ t z D2 (g3.trans (g4.trans e7.gd)) ((p4.same e7).mono (by omega)) upd_same (fresh_gd g3 (fresh_gd g4 (e5.free nD2))) ⟨n, (pz.same e6).same (same_upd nt), (same_upd nt) _ _ hD2⟩
theorem ok_l_right (T : Txt K mg a) : FnOk P w K mg base CX0 5 a.f_l_right a.d_l_right P_l_right (spRight a.c_Pupil) := by
  refine T.F_l_right.ok sc_l_right (fun vs H Q E h => ?_) (fun cdv A outer s H vs Q E hr h => ?_)
  · obtain ⟨PL, SL, xs, ys, rfl, _⟩ := h
    rfl
  · obtain ⟨PL, SL, xs, ys, rfl, ht, k⟩ := h
    refine ⟨_, (pss_cons (ps_for PassesOwn.never rfl (pi_range1 (by rfl) T.z_range (pa_cons pe_int pa_nil)) (pg_name (i := 2) sc_l_right.nd rfl (Or.inl rfl))
    (pss_cons (ps_if (PW.pt (pw_or (pt_cmpR (op_neD hr.units) (pe_fld (pe_ix ix_list (pv 0) (pv 2) (by intro _ _; rfl)) (by rfl)) (pe_callTy call_tuple_of (by rfl) T.z_tuple (by decide +kernel) (pa_cons (pe_ix ix_list (pv 1) (pv 2) (by intro _ _; rfl)) pa_nil)) (nomark _)) (pw_or1 (pt_cmpR op_ne (pe_callB (len_own (ok_Pupil_len T) (hr.mono (by decide)) T.s_Pupil_len T.i_Pupil_len T.b_Pupil_len pass0) (by rfl) T.z_len (by decide +kernel) (pa_cons (pe_ix ix_list (pv 0) (pv 2) (by intro _ _; rfl)) pa_nil)) (pe_callB call_len_seq (by rfl) T.z_len (by decide +kernel) (pa_cons (pe_ix ix_list (pv 1) (pv 2) (by intro _ _; rfl)) pa_nil)) (nomark _)))))
    (pss_one (ps_ret pe_bl))
    pss_nil)
  (pss_one (ps_for PassesOwn.never rfl (pi_range1 (by rfl) T.z_range (pa_cons pe_int pa_nil)) (pg_name (i := 3) sc_l_right.nd rfl (Or.inr rfl))
    (pss_cons (ps_set (i := 4) sc_l_right.nd rfl (Or.inl rfl) (pe_cmpR (op_eqD hr.units) (pe_lc (own := [("_law_name", 5)]) (g := gName 5) (tt := (tTest (tOp (rIn K true) (tVar 5) (tOp (rIxL K) (tVar 1) (tVar 3))))) (te := (tVar 5)) rfl sc_l_right.nd (pi_list (pe_ix ix_list (pv 1) (pv 2) (by intro _ _; rfl))) (blkOk_by (N := N_l_right) (sc := defScope s_l_right) (by decide +kernel)) (fun _ _ _ _ _ => pg_name (i := 5) sc_l_right.nd rfl (Or.inl rfl)) (fun _ _ _ _ _ => by exact (pts_one (pt_cmpR op_notIn_seq (pv 5) (pe_ix ix_list (pv 1) (pv 3) (by intro _ _; rfl)) (by with_unfolding_all rfl)))) (fun _ _ _ _ _ => by exact (pv 5))) (pe_lst pa_nil) (nomark _)))
  (pss_cons (ps_if (pt_cmpR op_ne (pe_cmpR (cmp_own (ok_Pupil_le T) (hr.mono (by decide)) T.s_Pupil_le T.i_Pupil_le T.b_Pupil_le pass0) (pe_ix ix_list (pv 0) (pv 2) (by intro _ _; rfl)) (pe_ix ix_list (pv 0) (pv 3) (by intro _ _; rfl)) (nomark _)) (pv 4) (nomark _))
    (pss_one (ps_ret pe_bl))
    pss_nil)
  (pss_one (ps_if (pt_cmpR op_ne (pe_cmpR (cmp_own (ok_Pupil_eq T) (hr.mono (by decide)) T.s_Pupil_eq T.i_Pupil_eq T.b_Pupil_eq pass0) (pe_ix ix_list (pv 0) (pv 2) (by intro _ _; rfl)) (pe_ix ix_list (pv 0) (pv 3) (by intro _ _; rfl)) (nomark _)) (pe_cmpR (op_eqD hr.units) (pe_ix ix_list (pv 1) (pv 2) (by intro _ _; rfl)) (pe_ix ix_list (pv 1) (pv 3) (by intro _ _; rfl)) (nomark _)) (nomark _))
    (pss_one (ps_ret pe_bl))
    pss_nil))))))))
  (pss_one (ps_ret pe_bl))), ?_⟩
    obtain ⟨hPL, hSL, lx, ly, hpr⟩ := id ht
    refine ⟨3, rfl, by decide, by decide, for_range (lo := 0) (n := 3) (fun i σ H1 => ∃ v1 v2 v3, σ = [some (.ref PL), some (.ref SL), v1, v2, v3, none] ∧ Same H H1) ⟨none, none, none, rfl, Same.refl _⟩ ?_ ?_⟩
    · rintro i σ H1 hi ⟨v1, v2, v3, rfl, e1⟩
      have e0 : (0 : Int) + ((i : Nat) : Int) = (i : Int) := Int.zero_add _
      rw [e0]
      obtain ⟨j, x, gx, ej, hj, ax⟩ := at_ref (xs := xs) (r := (i : Int)) (by omega) (by omega)
      obtain rfl : i = j := by omega
      obtain ⟨j', y, gy, ej', hj', ay⟩ := at_ref (xs := ys) (r := (i : Int)) (by omega) (by omega)
      obtain rfl : i = j' := by omega
      obtain ⟨l, px, hy⟩ := hpr _ _ _ gx gy
      have px1 := px.same e1
      obtain ⟨dd, u, hh, hu⟩ := id px1
      refine ⟨_, rfl, _, rfl, PL, _, _, _, rfl, rfl, lst_of (e1 _ _ hPL), ax, x, _, dd, _, _, rfl, hh, T.cl_Pupil, T.nA_Pupil_rights, rfl, ?_⟩
      refine ⟨_, rfl, _, rfl, SL, _, _, _, rfl, rfl, lst_of (e1 _ _ hSL), ay, y, _, rfl, .inl ⟨lst_of (e1 _ _ hy), fun q nq => ?_⟩⟩
      have e2 := same_upd nq (o := .tup ((norm l).map V.int))
      refine neD_tup (tup_of (e2 _ _ hu)) (tup_of upd_same) ⟨_, rfl, ?_⟩
      rw [ne_false rfl]
      refine iteF ?_
      have e12 := e1.trans e2
      refine ⟨_, rfl, _, rfl, PL, _, _, _, rfl, rfl, lst_of (e12 _ _ hPL), ax, x, dd, _, rfl, e2 _ _ hh, x, l, rfl, px.same e12, _, rfl, by omega, by have := norm_len l; omega, ?_⟩
      refine ⟨_, rfl, _, rfl, SL, _, _, _, rfl, rfl, lst_of (e12 _ _ hSL), ay, y, _, rfl, .inl (lst_of (e12 _ _ hy)), rfl, _, rfl, ?_⟩
      rw [List.length_map, show (!decide (V.int ((norm l).length : Nat) = V.int ((norm l).length : Nat))) = false by simp]
      refine iteF ?_
      refine ⟨3, rfl, by decide, by decide, for_range (lo := 0) (n := 3) (fun i2 σ H3 => ∃ v2 v3, σ = [some (.ref PL), some (.ref SL), some (.int i), v2, v3, none] ∧ Same H H3) ⟨_, _, rfl, e12⟩ ?_ ?_⟩
      · rintro i2 σ H3 hi2 ⟨v2, v3, rfl, e3⟩
        have e0 : (0 : Int) + ((i2 : Nat) : Int) = (i2 : Int) := Int.zero_add _
        rw [e0]
        obtain ⟨j, x2, gx2, ej, hj, ax2⟩ := at_ref (xs := xs) (r := (i2 : Int)) (by omega) (by omega)
        obtain rfl : i2 = j := by omega
        obtain ⟨j', y2, gy2, ej', hj', ay2⟩ := at_ref (xs := ys) (r := (i2 : Int)) (by omega) (by omega)
        obtain rfl : i2 = j' := by omega
        obtain ⟨m, px2, hy2⟩ := hpr _ _ _ gx2 gy2
        -- within
        refine ⟨_, rfl, _, rfl, SL, _, _, _, rfl, rfl, lst_of (e3 _ _ hSL), ay, y, rfl, ⟨_, lst_of (e3 _ _ hy)⟩, fun D nD => lcL_filter (K := K) (ns := norm l) (fun x => !decide (x ∈ norm m)) (lst_of (e3 _ _ hy)) nD (by have := norm_len l; omega) (fun _ => rfl) ?_ ?_ ?_⟩
        · intro z hz H' e' R r
          have e4 := e3.trans e'
          exact ⟨_, rfl, _, rfl, _, rfl, SL, _, _, _, rfl, rfl, lst_of (e4 _ _ hSL), ay2, in_k (.inl (lst_of (e4 _ _ hy2))) ⟨_, rfl, r⟩⟩
        · intro z hz H' e' R r
          exact ⟨_, rfl, r⟩
        · intro H5 e5 h5
          refine ⟨Nat.zero_le _, fun q nq => ?_⟩
          refine eqD_lst (ns := (norm l).filter fun x => !decide (x ∈ norm m)) (ms := []) (lst_of ((same_upd nq) _ _ h5)) (lst_of upd_same) ?_
          rw [← le_listW]
          have e6 := e3.trans (e5.trans (same_upd nq (o := .lst [])))
          -- <=
          refine ⟨_, rfl, _, rfl, PL, _, _, _, rfl, rfl, lst_of (e6 _ _ hPL), ax, _, rfl, _, rfl, PL, _, _, _, rfl, rfl, lst_of (e6 _ _ hPL), ax2, own_rel (px.same e6) (px2.same e6) ?_⟩
          intro H7 e7
          have e67 := e6.trans e7
          refine ⟨_, rfl, rfl, _, rfl, ?_⟩
          rw [dec_self]
          refine iteF ?_
          -- ==
          refine ⟨_, rfl, _, rfl, PL, _, _, _, rfl, rfl, lst_of (e67 _ _ hPL), ax, _, rfl, _, rfl, PL, _, _, _, rfl, rfl, lst_of (e67 _ _ hPL), ax2, own_rel (px.same e67) (px2.same e67) ?_⟩
          intro H8 e8
          have e68 := e67.trans e8
          refine ⟨_, rfl, _, rfl, SL, _, _, _, rfl, rfl, lst_of (e68 _ _ hSL), ay, _, rfl, _, rfl, SL, _, _, _, rfl, rfl, lst_of (e68 _ _ hSL), ay2, eqD_lst (lst_of (e68 _ _ hy)) (lst_of (e68 _ _ hy2)) ?_⟩
          refine ⟨rfl, _, rfl, ?_⟩
          rw [show fEq (norm l) (norm m) = decide (norm l = norm m) from rfl, dec_self]
          exact iteF ⟨_, _, rfl, e68⟩
      · rintro σ H3 ⟨v2, v3, rfl, e3⟩
        exact ⟨_, _, _, rfl, e3⟩
    · rintro σ H1 ⟨v1, v2, v3, rfl, e1⟩
      exact k _ e1
def sp_law (K : PySem.W.Frag) : Sp := fun vs H Q _ => ∃ (x : Addr) (ns : List Int), vs = [.ref x] ∧ ScrAt K H x (ns.map V.int) ∧ ns.length ≤ 63 ∧ ∀ H', Q (.bl true) H'
/-- the tuples of before: a pupil and its list -/
def Bf (C B : Addr) (H : Hp) (bs : List Addr) : Prop := ∀ t ∈ bs, ∃ x y, H t = some (.tup [.ref x, .ref y]) ∧ Pr C H x y ∧ y ≠ B
theorem Bf.gd {C B : Addr} {H H' : Hp} {bs : List Addr} (e : Gd H H') (h : Bf C B H bs) : Bf C B H' bs := fun t ht => let ⟨x, y, a, b, c⟩ := h t ht; ⟨x, y, e.1 _ _ (np_tup _) a, b.gd e, c⟩
theorem Bf.mut {C B q : Addr} {H : Hp} {bs : List Addr} {zs : List V} {o : HO} (hq : H q = some (.lst zs)) (hn : ∀ x y, Pr C H x y → y ≠ B → y ≠ q) (h : Bf C B H bs) : Bf C B (upd H q o) bs := fun t ht => let ⟨x, y, a, b, c⟩ := h t ht;
  ⟨x, y, by rw [upd_ne (ne_of a hq (by intro z; cases z))]; exact a, b.mut hq (hn x y b c), c⟩
theorem ok_law (T : Txt K mg a) : FnOk P w K mg base CX0 6 a.f_law a.d_law P_law (sp_law K) := by
  refine T.F_law.ok sc_law (fun vs H Q E h => ?_) (fun cdv A outer s H vs Q E hr h => ?_)
  · obtain ⟨x, ns, rfl, _⟩ := h
    rfl
  · obtain ⟨x, ns, rfl, hx, hl, k⟩ := h
    refine ⟨_, (Evl.pss_cut (ps_set (i := 1) sc_law.nd rfl (Or.inl rfl) (pe_call (ok_l_pool T) (hr.mono (by decide)) (by rfl) T.g_l_pool T.k_l_pool T.b_l_pool .nil pass0 (pa_cons (pv 0) pa_nil)))
  (Evl.pss_cut (ps_set (i := 2) sc_law.nd rfl (Or.inl rfl) (pe_lst (pa_cons (pe_make T.mk_Pupil (ok_Pupil_init T) (hr.mono (by decide)) (by rfl) T.g_Pupil T.b_Pupil_init .nil pass0 (pa_cons (pe_lst pa_nil) pa_nil)) (pa_cons (pe_make T.mk_Pupil (ok_Pupil_init T) (hr.mono (by decide)) (by rfl) T.g_Pupil T.b_Pupil_init .nil pass0 (pa_cons (pe_tup pa_nil) pa_nil)) (pa_cons (pe_make T.mk_Pupil (ok_Pupil_init T) (hr.mono (by decide)) (by rfl) T.g_Pupil T.b_Pupil_init .nil pass0 (pa_cons (pe_listRg rfl (by rfl) T.z_list (prg_1 (by rfl) T.z_range pe_int)) pa_nil)) pa_nil)))))
  (Evl.pss_cut (ps_set (i := 3) sc_law.nd rfl (Or.inl rfl) (pe_lst (pa_cons (pe_lst pa_nil) (pa_cons (pe_lst pa_nil) (pa_cons (pe_listRg rfl (by rfl) T.z_list (prg_1 (by rfl) T.z_range pe_int)) pa_nil)))))
  (Evl.pss_cut (ps_set (i := 4) sc_law.nd rfl (Or.inl rfl) (pe_lst pa_nil))
  (Evl.pss_cut (ps_for PassesOwn.never rfl (pi_range1 (by rfl) T.z_range (pa_cons (pe_call (ok_l_draw T) (hr.mono (by decide)) (by rfl) T.g_l_draw T.k_l_draw T.b_l_draw .nil pass0 (pa_cons (pv 1) (pa_cons pe_int pa_nil))) pa_nil)) (pg_name (i := 5) sc_law.nd rfl (Or.inl rfl))
    (pss_cons (ps_set (i := 6) sc_law.nd rfl (Or.inl rfl) (pe_call (ok_l_draw T) (hr.mono (by decide)) (by rfl) T.g_l_draw T.k_l_draw T.b_l_draw .nil pass0 (pa_cons (pv 1) (pa_cons pe_int pa_nil))))
  (pss_cons (ps_asg (pe_call (ok_l_after T) (hr.mono (by decide)) (by rfl) T.g_l_after T.k_l_after T.b_l_after .nil pass0 (pa_cons (pv 1) (pa_cons (pv 2) (pa_cons (pv 3) pa_nil)))) (pg_tup rfl (pgs_cons (pg_name (i := 7) sc_law.nd rfl (Or.inl rfl)) (pgs_cons (pg_name (i := 8) sc_law.nd rfl (Or.inl rfl)) pgs_nil))))
  (pss_cons (ps_expr (pe_bm PySem.F.plainAttrs_list PySem.F.slot_list_append PySem.F.type_list_append mt_append (pv 4) (pa_cons (pe_tup (pa_cons (pe_ix ix_list (pv 2) (pv 6) (by intro _ _; rfl)) (pa_cons (pe_ix ix_list (pv 3) (pv 6) (by intro _ _; rfl)) pa_nil))) pa_nil)))
  (pss_cons (ps_asg (pv 7) (pg_sub (pv 2) (pv 6) set_list))
  (pss_cons (ps_asg (pv 8) (pg_sub (pv 3) (pv 6) set_list))
  (pss_cons (ps_if (pt_not (pt_val (pe_call (ok_l_right T) (hr.mono (by decide)) (by rfl) T.g_l_right T.k_l_right T.b_l_right .nil pass0 (pa_cons (pv 2) (pa_cons (pv 3) pa_nil)))))
    (pss_one (ps_ret pe_bl))
    pss_nil)
  (Evl.pss_cut (ps_set (i := 9) sc_law.nd rfl (Or.inr rfl) (pe_call (ok_l_draw T) (hr.mono (by decide)) (by rfl) T.g_l_draw T.k_l_draw T.b_l_draw .nil pass0 (pa_cons (pv 1) (pa_cons pe_int pa_nil))))
  (pss_one (ps_if (pt_cmpR (op_neD hr.units) (pe_lc (own := [("_law_one", 10)]) (g := gName 10) (tt := tYes) (te := (tOp (rOwnIn a.c_Pupil (spHas a.c_Pupil) E0 false) (tVar 9) (tVar 10))) rfl sc_law.nd (pi_list (pv 2)) (blkOk_by (N := N_law) (sc := defScope s_law) (by decide +kernel)) (fun _ _ _ _ _ => pg_name (i := 10) sc_law.nd rfl (Or.inl rfl)) (fun _ _ _ _ _ => pts_nil) (fun _ _ _ _ _ => by exact (pe_cmpR (in_own (ok_Pupil_contains T) (hr.mono (by decide)) T.s_Pupil_contains T.i_Pupil_contains T.b_Pupil_contains pass0) (pv 9) (pv 10) (by with_unfolding_all rfl)))) (pe_lc (own := [("_law_one", 10)]) (g := gName 10) (tt := tYes) (te := (tOp (rIn K false) (tVar 9) (tVar 10))) rfl sc_law.nd (pi_list (pv 3)) (blkOk_by (N := N_law) (sc := defScope s_law) (by decide +kernel)) (fun _ _ _ _ _ => pg_name (i := 10) sc_law.nd rfl (Or.inl rfl)) (fun _ _ _ _ _ => pts_nil) (fun _ _ _ _ _ => by exact (pe_cmpR op_in_seq (pv 9) (pv 10) (by with_unfolding_all rfl)))) (nomark _))
    (pss_one (ps_ret pe_bl))
    pss_nil))))))))))
  (Evl.pss_cut (ps_set (i := 9) sc_law.nd rfl (Or.inr rfl) (pe_call (ok_l_draw T) (hr.mono (by decide)) (by rfl) T.g_l_draw T.k_l_draw T.b_l_draw .nil pass0 (pa_cons (pv 1) (pa_cons pe_int pa_nil))))
  (Evl.pss_cut (ps_for PassesOwn.never rfl (pi_list (pv 4)) (pg_tup rfl (pgs_cons (pg_name (i := 7) sc_law.nd rfl (Or.inl rfl)) (pgs_cons (pg_name (i := 8) sc_law.nd rfl (Or.inl rfl)) pgs_nil)))
    (pss_one (ps_if (PW.pt (pw_or (pt_cmpR (op_neD hr.units) (pe_fld (pv 7) (by rfl)) (pe_callTy call_tuple_of (by rfl) T.z_tuple (by decide +kernel) (pa_cons (pv 8) pa_nil)) (nomark _)) (pw_or (pt_cmpR op_ne (pe_callB (len_own (ok_Pupil_len T) (hr.mono (by decide)) T.s_Pupil_len T.i_Pupil_len T.b_Pupil_len pass0) (by rfl) T.z_len (by decide +kernel) (pa_cons (pv 7) pa_nil)) (pe_callB call_len_seq (by rfl) T.z_len (by decide +kernel) (pa_cons (pv 8) pa_nil)) (nomark _)) (pw_or1 (pt_cmpR op_ne (pe_cmpR (in_own (ok_Pupil_contains T) (hr.mono (by decide)) T.s_Pupil_contains T.i_Pupil_contains T.b_Pupil_contains pass0) (pv 9) (pv 7) (by with_unfolding_all rfl)) (pe_cmpR op_in_seq (pv 9) (pv 8) (by with_unfolding_all rfl)) (nomark _))))))
    (pss_one (ps_ret pe_bl))
    pss_nil)))
  (pss_one (ps_ret pe_bl))))))))), ?_⟩
    -- the pool
    refine ⟨fun σ H1 => ∃ p, σ = [some (.ref x), some (.ref p), none, none, none, none, none, none, none, none, none] ∧ PoolOk K p 0 H1, ?_, ?_⟩
    · exact ⟨_, rfl, x, ns, rfl, hx, fun p H1 np e1 hp => ⟨p, rfl, hp⟩⟩
    rintro σ H1 ⟨p, rfl, hp⟩
    -- the pupils
    refine ⟨fun σ H1 => ∃ PL x0 x1 x2, σ = [some (.ref x), some (.ref p), some (.ref PL), none, none, none, none, none, none, none, none] ∧ PoolOk K p 0 H1 ∧ H1 PL = some (.lst [.ref x0, .ref x1, .ref x2]) ∧ PupAt a.c_Pupil H1 x0 [] ∧ PupAt a.c_Pupil H1 x1 [] ∧ PupAt a.c_Pupil H1 x2 (rgI 48), ?_, ?_⟩
    · refine ⟨Nat.zero_le _, fun q nq => ?_⟩
      refine pup_make (l := []) (.inl (lst_of upd_same)) (by decide) (fun _ h => (nomatch h)) ?_
      intro x0 H2 n2 e2 p2
      refine ⟨Nat.zero_le _, fun q3 nq3 => ?_⟩
      refine pup_make (l := []) (.inr (tup_of upd_same)) (by decide) (fun _ h => (nomatch h)) ?_
      intro x1 H4 n4 e4 p4
      refine ⟨48, rfl, RgOk.of_le (by decide) (by decide) (by decide) (by decide), fun q5 nq5 => ?_⟩
      have h48 : (upd H4 q5 (.lst (rgV 0 48))) q5 = some (.lst ((rgI 48).map V.int)) := by rw [upd_same, show rgV 0 48 = (rgI 48).map V.int from rg_ints 48]
      refine pup_make (.inl (lst_of h48)) (by rw [rgI_length]; decide) (fun x hx => by have := mem_rgI.mp hx; omega) ?_
      intro x2 H6 n6 e6 p6
      refine ⟨by show 3 ≤ sizeLine; decide, fun PL nPL => ?_⟩
      have s1 := (same_upd nq).trans e2
      have s2 := (same_upd nq3).trans e4
      have s3 := ((same_upd nq5).trans e6).trans (same_upd nPL (o := .lst [.ref x0, .ref x1, .ref x2]))
      exact ⟨PL, x0, x1, x2, rfl, hp.same ((s1.trans s2).trans s3), upd_same, (p2.same s2).same s3, p4.same s3, p6.same (same_upd nPL)⟩
    rintro σ H2 ⟨PL, x0, x1, x2, rfl, hp2, hPL, q0, q1, q2⟩
    -- the sets
    refine ⟨fun σ H1 => ∃ SL xs ys, σ = [some (.ref x), some (.ref p), some (.ref PL), some (.ref SL), none, none, none, none, none, none, none] ∧ PoolOk K p 0 H1 ∧ PL ≠ SL ∧ Tri a.c_Pupil H1 PL SL xs ys, ?_, ?_⟩
    · refine ⟨Nat.zero_le _, fun y0 n0 => ⟨Nat.zero_le _, fun y1 n1 => ⟨48, rfl, RgOk.of_le (by decide) (by decide) (by decide) (by decide), fun y2 n2 => ⟨by show 3 ≤ sizeLine; decide, fun SL nSL => ?_⟩⟩⟩⟩
      have s1 := (same_upd n1 (o := .lst [])).trans ((same_upd n2 (o := .lst (rgV 0 48))).trans (same_upd nSL (o := .lst [.ref y0, .ref y1, .ref y2])))
      have s0 := (same_upd n0 (o := .lst [])).trans s1
      refine ⟨SL, [x0, x1, x2], [y0, y1, y2], rfl, hp2.same s0, ne_of_none (((same_upd n0).trans ((same_upd n1).trans (same_upd n2))) _ _ hPL) nSL, s0 _ _ hPL, upd_same, rfl, rfl, fun k x y hx hy => ?_⟩
      match k with
      | 0 =>
        cases hx
        cases hy
        exact ⟨[], q0.same s0, s1 _ _ upd_same⟩
      | 1 =>
        cases hx
        cases hy
        exact ⟨[], q1.same s0, ((same_upd n2).trans (same_upd nSL)) _ _ upd_same⟩
      | 2 =>
        cases hx
        cases hy
        refine ⟨rgI 48, q2.same s0, (same_upd nSL) _ _ ?_⟩
        rw [upd_same, show rgV 0 48 = (rgI 48).map V.int from rg_ints 48]
        congr 3
      | k + 3 => cases hx
    rintro σ H3 ⟨SL, xs, ys, rfl, hp3, nPS, ht3⟩
    -- before
    refine ⟨fun σ H1 => ∃ B, σ = [some (.ref x), some (.ref p), some (.ref PL), some (.ref SL), some (.ref B), none, none, none, none, none, none] ∧ PoolOk K p 0 H1 ∧ PL ≠ B ∧ SL ≠ B ∧ Tri a.c_Pupil H1 PL SL xs ys ∧ H1 B = some (.lst []) ∧ (∀ y ∈ ys, y ≠ B), ?_, ?_⟩
    · refine ⟨Nat.zero_le _, fun B nB => ⟨B, rfl, hp3.upd nB, ne_of_none ht3.1 nB, ne_of_none ht3.2.1 nB, ht3.gd (same_upd nB).gd, upd_same, fun y hy => ?_⟩⟩
      obtain ⟨j, hj, rfl⟩ := List.getElem_of_mem hy
      obtain ⟨z, hz⟩ := get3 (xs := xs) (j := j) ht3.2.2.1 (by have := ht3.2.2.2.1; omega)
      obtain ⟨l, _, h⟩ := ht3.2.2.2.2 j _ _ hz (List.getElem?_eq_getElem hj)
      exact ne_of_none h nB
    rintro σ H4 ⟨B, rfl, hp4, nPB, nSB, ht4, hB, hyB⟩
    -- the deeds
    refine ⟨fun σ H5 => ∃ xs ys bs v5 v6 v7 v8 v9, σ = [some (.ref x), some (.ref p), some (.ref PL), some (.ref SL), some (.ref B), v5, v6, v7, v8, v9, none] ∧ PoolOk K p 10000 H5 ∧ Tri a.c_Pupil H5 PL SL xs ys ∧ H5 B = some (.lst (bs.map V.ref)) ∧ Bf a.c_Pupil B H5 bs, ?_, ?_⟩
    · refine ⟨_, rfl, p, 0, 41, rfl, hp4, by decide, by decide, by decide, fun H5 r g5 p5 r0 r1 => ⟨r, rfl, by omega, by omega, ?_⟩⟩
      refine for_range (lo := 0) (n := r.toNat) (fun i σ H5 => ∃ xs ys bs v5 v6 v7 v8 v9, σ = [some (.ref x), some (.ref p), some (.ref PL), some (.ref SL), some (.ref B), v5, v6, v7, v8, v9, none] ∧ PoolOk K p (1 + 200 * i) H5 ∧ Tri a.c_Pupil H5 PL SL xs ys ∧ H5 B = some (.lst (bs.map V.ref)) ∧ bs.length ≤ i ∧ (∀ y ∈ ys, y ≠ B) ∧ Bf a.c_Pupil B H5 bs)
        ⟨xs, ys, [], none, none, none, none, none, rfl, p5, ht4.gd g5, g5.1 _ _ (np_refs []) hB, Nat.le_refl _, hyB, fun _ h => (nomatch h)⟩ ?_ ?_
      · rintro i σ H6 hi ⟨xs, ys, bs, v5, v6, v7, v8, v9, rfl, p6, ht6, hB6, hbl, hyB6, hbf⟩
        -- at
        refine ⟨_, rfl, p, _, 3, rfl, p6, by unfold LIM; omega, by decide, by decide, fun H7 r7 g7 p7 r70 r71 => ?_⟩
        -- pupil, told = after
        refine ⟨_, rfl, _, rfl, _, rfl, p, PL, SL, _, xs, ys, rfl, p7, by unfold LIM; omega, ht6.gd g7, fun H8 t8 x8 y8 g8 p8 ht8 ny8 pr8 => ?_⟩
        have g78 := g7.trans g8
        have ht := ht6.gd g78
        have hB8 := g78.1 _ _ (np_refs bs) hB6
        have hbf8 := hbf.gd g78
        have y8B : y8 ≠ B := (ne_of_none (g7.1 _ _ (np_refs bs) hB6) ny8).symm
        obtain ⟨hPL8, hSL8, lx, ly, hpr⟩ := id ht
        obtain ⟨j, u, gu, rfl, hj, au⟩ := at_ref (xs := xs) r70 (by omega)
        obtain ⟨j', y, gy, ej', hj', ay⟩ := at_ref (xs := ys) r70 (by omega)
        obtain rfl : j = j' := by omega
        refine ⟨t8, _, rfl, tup_of ht8, rfl, _, _, rfl, _, _, rfl, rfl, ?_⟩
        -- before.append((pupils[at], sets[at]))
        refine ⟨_, rfl, .inl ⟨rfl, _, lst_of hB8⟩, _, rfl, _, rfl, PL, _, _, _, rfl, rfl, lst_of hPL8, au, _, rfl, _, rfl, SL, _, _, _, rfl, rfl, lst_of hSL8, ay, by show 2 ≤ sizeLine; decide, fun q nq => ?_⟩
        have e9 := same_upd nq (o := .tup [.ref u, .ref y])
        have hB9 := e9 _ _ hB8
        refine ⟨B, _, _, rfl, rfl, hB9, by rw [List.length_map, sizeLine_eq]; omega, ?_⟩
        have ht9 := ht.gd e9.gd
        have bf9 := hbf8.gd e9.gd
        have pr9 := pr8.same e9
        have p9 := p8.same e9
        generalize hH9 : upd H8 q (.tup [.ref u, .ref y]) = H9 at hB9 ht9 bf9 pr9 p9 e9 ⊢
        have hq9 : H9 q = some (.tup [.ref u, .ref y]) := by rw [← hH9]; exact upd_same
        obtain ⟨hPL9, hSL9, _, _, hpr9⟩ := id ht9
        -- B, PL, SL are changed
        have prB : ∀ x y, Pr a.c_Pupil H9 x y → y ≠ B → Pr a.c_Pupil (upd H9 B (.lst (bs.map V.ref ++ [.ref q]))) x y := fun x y h n => h.mut hB9 n
        have p10 : PoolOk K p (1 + 200 * i + 1 + 100) (upd H9 B (.lst (bs.map V.ref ++ [.ref q]))) := p9.mut hB9 (np_refs bs)
        have hPL10 : upd H9 B (.lst (bs.map V.ref ++ [.ref q])) PL = some (.lst (xs.map V.ref)) := by rw [upd_ne nPB]; exact hPL9
        have hSL10 : upd H9 B (.lst (bs.map V.ref ++ [.ref q])) SL = some (.lst (ys.map V.ref)) := by rw [upd_ne nSB]; exact hSL9
        have hB10 : upd H9 B (.lst (bs.map V.ref ++ [.ref q])) B = some (.lst ((bs ++ [q]).map V.ref)) := by rw [upd_same, List.map_append]; rfl
        have bf10 : Bf a.c_Pupil B (upd H9 B (.lst (bs.map V.ref ++ [.ref q]))) (bs ++ [q]) := by
          intro z hz
          rcases List.mem_append.mp hz with hz | hz
          · exact bf9.mut hB9 (fun x y _ n => n) z hz
          · rw [List.mem_singleton.mp hz]
            exact ⟨u, y, by rw [upd_ne (ne_of hq9 hB9 (by intro z; cases z))]; exact hq9, prB _ _ (hpr9 _ _ _ gu gy) (hyB6 _ (List.mem_of_getElem? gy)), hyB6 _ (List.mem_of_getElem? gy)⟩
        have pr10 := prB _ _ pr9 y8B
        have hpr10 : ∀ (k : Nat) x y, xs[k]? = some x → ys[k]? = some y → Pr a.c_Pupil (upd H9 B (.lst (bs.map V.ref ++ [.ref q]))) x y := fun k x y hx hy => prB _ _ (hpr9 _ _ _ hx hy) (hyB6 _ (List.mem_of_getElem? hy))
        generalize hH10 : upd H9 B (.lst (bs.map V.ref ++ [.ref q])) = H10 at p10 hPL10 hSL10 hB10 bf10 pr10 hpr10 ⊢
        -- a set's list is neither PL nor SL
        obtain ⟨x0, xr, exs⟩ : ∃ x0 xr, xs = x0 :: xr := by
          cases xs with
          | nil => cases lx
          | cons x0 xr => exact ⟨x0, xr, rfl⟩
        obtain ⟨y0, yr, eys⟩ : ∃ y0 yr, ys = y0 :: yr := by
          cases ys with
          | nil => cases ly
          | cons y0 yr => exact ⟨y0, yr, rfl⟩
        have nPL : ∀ x y, Pr a.c_Pupil H10 x y → y ≠ PL := fun x y h => h.ne (z := x0) (zs := xr.map V.ref) (by rw [hPL10, exs]; rfl)
        have ixP : ixN (xs.map V.ref).length (j : Int) = some j := by
          unfold ixN
          rw [if_pos (by omega), if_pos (by rw [List.length_map]; omega), Int.toNat_natCast]
        have ixS : ixN (ys.map V.ref).length (j : Int) = some j := by
          unfold ixN
          rw [if_pos (by omega), if_pos (by rw [List.length_map]; omega), Int.toNat_natCast]
        refine ⟨_, rfl, _, rfl, _, rfl, PL, _, (j : Int), j, rfl, rfl, hPL10, ixP, ?_⟩
        have eset : (xs.map V.ref).set j (.ref x8) = (xs.set j x8).map V.ref := by rw [List.map_set]
        have hPL11 : upd H10 PL (.lst ((xs.map V.ref).set j (.ref x8))) PL = some (.lst ((xs.set j x8).map V.ref)) := by rw [upd_same, eset]
        have hSL11 : upd H10 PL (.lst ((xs.map V.ref).set j (.ref x8))) SL = some (.lst (ys.map V.ref)) := by rw [upd_ne nPS.symm]; exact hSL10
        have hB11 : upd H10 PL (.lst ((xs.map V.ref).set j (.ref x8))) B = some (.lst ((bs ++ [q]).map V.ref)) := by rw [upd_ne nPB.symm]; exact hB10
        have p11 : PoolOk K p (1 + 200 * i + 1 + 100) (upd H10 PL (.lst ((xs.map V.ref).set j (.ref x8)))) := p10.mut hPL10 (np_refs xs)
        have bf11 : Bf a.c_Pupil B (upd H10 PL (.lst ((xs.map V.ref).set j (.ref x8)))) (bs ++ [q]) := bf10.mut hPL10 fun x y h _ => nPL x y h
        have pr11 : Pr a.c_Pupil (upd H10 PL (.lst ((xs.map V.ref).set j (.ref x8)))) x8 y8 := pr10.mut hPL10 (nPL _ _ pr10)
        have hpr11 : ∀ (k : Nat) x y, xs[k]? = some x → ys[k]? = some y → Pr a.c_Pupil (upd H10 PL (.lst ((xs.map V.ref).set j (.ref x8)))) x y := fun k x y hx hy => (hpr10 _ _ _ hx hy).mut hPL10 (nPL _ _ (hpr10 _ _ _ hx hy))
        generalize hH11 : upd H10 PL (.lst ((xs.map V.ref).set j (.ref x8))) = H11 at hPL11 hSL11 hB11 p11 bf11 pr11 hpr11 ⊢
        have nSL : ∀ x y, Pr a.c_Pupil H11 x y → y ≠ SL := fun x y h => h.ne (z := y0) (zs := yr.map V.ref) (by rw [hSL11, eys]; rfl)
        refine ⟨_, rfl, _, rfl, _, rfl, SL, _, (j : Int), j, rfl, rfl, hSL11, ixS, ?_⟩
        have esetS : (ys.map V.ref).set j (.ref y8) = (ys.set j y8).map V.ref := by rw [List.map_set]
        have ht12 : Tri a.c_Pupil (upd H11 SL (.lst ((ys.map V.ref).set j (.ref y8)))) PL SL (xs.set j x8) (ys.set j y8) := by
          refine ⟨by rw [upd_ne nPS]; exact hPL11, by rw [upd_same, esetS], by rw [List.length_set]; exact lx, by rw [List.length_set]; exact ly, fun k x y hx hy => ?_⟩
          by_cases hk : j = k
          · subst hk
            rw [List.getElem?_set_self (by omega)] at hx hy
            cases hx
            cases hy
            exact pr11.mut hSL11 (nSL _ _ pr11)
          · rw [List.getElem?_set_ne hk] at hx hy
            have h := hpr11 k x y hx hy
            exact h.mut hSL11 (nSL _ _ h)
        have hB12 : upd H11 SL (.lst ((ys.map V.ref).set j (.ref y8))) B = some (.lst ((bs ++ [q]).map V.ref)) := by rw [upd_ne nSB.symm]; exact hB11
        have p12 : PoolOk K p (1 + 200 * i + 1 + 100) (upd H11 SL (.lst ((ys.map V.ref).set j (.ref y8)))) := p11.mut hSL11 (np_refs ys)
        have bf12 : Bf a.c_Pupil B (upd H11 SL (.lst ((ys.map V.ref).set j (.ref y8)))) (bs ++ [q]) := bf11.mut hSL11 fun x y h _ => nSL x y h
        have hyB12 : ∀ y ∈ ys.set j y8, y ≠ B := fun y hy => by
          rcases List.mem_or_eq_of_mem_set hy with h | h
          · exact hyB6 y h
          · rw [h]; exact y8B
        generalize hH12 : upd H11 SL (.lst ((ys.map V.ref).set j (.ref y8))) = H12 at ht12 hB12 p12 bf12 ⊢
        -- if not right(..)
        refine ⟨_, rfl, _, rfl, PL, SL, _, _, rfl, ht12, fun H13 e13 => ⟨_, rfl, iteF ?_⟩⟩
        -- question
        refine ⟨fun σ H14 => ∃ z : Int, σ = [some (.ref x), some (.ref p), some (.ref PL), some (.ref SL), some (.ref B), some (.int (0 + (i : Nat))), some (.int j), some (.ref x8), some (.ref y8), some (.int z), none] ∧ PoolOk K p (1 + 200 * i + 102) H14 ∧ 0 ≤ z ∧ z < 48 ∧ Gd H13 H14, ?_, ?_⟩
        · exact ⟨_, rfl, p, _, 48, rfl, p12.same e13, by unfold LIM; omega, by decide, by decide, fun H14 z g14 p14 z0 z1 => ⟨z, rfl, p14, z0, z1, g14⟩⟩
        rintro σ H14 ⟨z, rfl, p14, z0, z1, g14⟩
        have g1214 := e13.gd.trans g14
        have ht14 := ht12.gd g1214
        obtain ⟨hPL14, hSL14, lx14, ly14, hpr14⟩ := id ht14
        have hB14 := g1214.1 _ _ (np_refs _) hB12
        have bf14 := bf12.gd g1214
        -- the two lists of truths
        obtain ⟨tb, hlt, htb⟩ : ∃ tb : List Bool, tb.length = 3 ∧ ∀ (k : Nat) x y, (xs.set j x8)[k]? = some x → (ys.set j y8)[k]? = some y → ∃ l, PupAt a.c_Pupil H14 x l ∧ H14 y = some (.lst ((norm l).map V.int)) ∧ tb[k]? = some (decide (z ∈ norm l)) := by
          obtain ⟨u0, hu0⟩ := get3 (j := 0) lx14 (by decide)
          obtain ⟨u1, hu1⟩ := get3 (j := 1) lx14 (by decide)
          obtain ⟨u2, hu2⟩ := get3 (j := 2) lx14 (by decide)
          obtain ⟨w0, hw0⟩ := get3 (j := 0) ly14 (by decide)
          obtain ⟨w1, hw1⟩ := get3 (j := 1) ly14 (by decide)
          obtain ⟨w2, hw2⟩ := get3 (j := 2) ly14 (by decide)
          obtain ⟨l0, a0, b0⟩ := hpr14 _ _ _ hu0 hw0
          obtain ⟨l1, a1, b1⟩ := hpr14 _ _ _ hu1 hw1
          obtain ⟨l2, a2, b2⟩ := hpr14 _ _ _ hu2 hw2
          refine ⟨[decide (z ∈ norm l0), decide (z ∈ norm l1), decide (z ∈ norm l2)], rfl, fun k x y hx hy => ?_⟩
          match k with
          | 0 => rw [hu0] at hx; rw [hw0] at hy; cases hx; cases hy; exact ⟨l0, a0, b0, rfl⟩
          | 1 => rw [hu1] at hx; rw [hw1] at hy; cases hx; cases hy; exact ⟨l1, a1, b1, rfl⟩
          | 2 => rw [hu2] at hx; rw [hw2] at hy; cases hx; cases hy; exact ⟨l2, a2, b2, rfl⟩
          | k + 3 =>
            have := (List.getElem?_eq_some_iff.mp hx).1
            omega
        refine ⟨_, rfl, PL, rfl, ⟨_, lst_of hPL14⟩, fun D nD => ?_⟩
        refine lc_list (K := K) (a := PL) (xs := (xs.set j x8).map V.ref) (fun i H15 => Same H14 H15 ∧ H15 D = some (.lst ((tb.take i).map V.bl))) ⟨same_upd nD, upd_same⟩ (fun i H15 _ h => lst_of (h.1 _ _ hPL14)) (fun i2 v H15 hi2 h => ?_) (fun H15 h => ?_)
        · obtain ⟨e15, h15⟩ := h
          have hi3 : i2 < (xs.set j x8).length := by
            have := (List.getElem?_eq_some_iff.mp hi2).1
            rw [List.length_map] at this
            exact this
          obtain ⟨w, hw⟩ : ∃ w, (xs.set j x8)[i2]? = some w := ⟨_, List.getElem?_eq_getElem hi3⟩
          obtain ⟨y2, hy2⟩ := get3 (xs := ys.set j y8) (j := i2) ly14 (by omega)
          obtain ⟨l, pw, hy3, hb⟩ := htb _ _ _ hw hy2
          rw [List.getElem?_map, hw] at hi2
          cases hi2
          have pw15 := pw.same e15
          obtain ⟨dd, w2, hh, _⟩ := id pw15
          refine ⟨rfl, tyes ?_⟩
          refine ⟨_, rfl, _, rfl, w, dd, _, rfl, hh, w, l, z, rfl, pw15, _, rfl, _, h15, ?_, e15.mut nD, ?_⟩
          · rw [List.length_map, List.length_take, sizeLine_eq]; omega
          · rw [upd_same, take_get hb, List.map_append]; rfl
        · obtain ⟨e15, h15⟩ := h
          rw [List.length_map, lx14, ← hlt, List.take_length] at h15
          refine ⟨_, rfl, SL, rfl, ⟨_, lst_of (e15 _ _ hSL14)⟩, fun D2 nD2 => ?_⟩
          refine lc_list (K := K) (a := SL) (xs := (ys.set j y8).map V.ref) (fun i H16 => Same H15 H16 ∧ H16 D2 = some (.lst ((tb.take i).map V.bl))) ⟨same_upd nD2, upd_same⟩ (fun i H16 _ h => lst_of (h.1 _ _ (e15 _ _ hSL14))) (fun i2 v H16 hi2 h => ?_) (fun H16 h => ?_)
          · obtain ⟨e16, h16⟩ := h
            have hi3 : i2 < (ys.set j y8).length := by
              have := (List.getElem?_eq_some_iff.mp hi2).1
              rw [List.length_map] at this
              exact this
            obtain ⟨w, hw⟩ : ∃ w, (ys.set j y8)[i2]? = some w := ⟨_, List.getElem?_eq_getElem hi3⟩
            obtain ⟨x2, hx2⟩ := get3 (xs := xs.set j x8) (j := i2) lx14 (by omega)
            obtain ⟨l, pw, hy3, hb⟩ := htb _ _ _ hx2 hw
            rw [List.getElem?_map, hw] at hi2
            cases hi2
            refine ⟨rfl, tyes ?_⟩
            refine ⟨_, rfl, _, rfl, in_k (.inl (lst_of (e16 _ _ (e15 _ _ hy3)))) ⟨_, h16, ?_, e16.mut nD2, ?_⟩⟩
            · rw [List.length_map, List.length_take, sizeLine_eq]; omega
            · rw [upd_same, take_get hb, List.map_append]; rfl
          · obtain ⟨e16, h16⟩ := h
            rw [List.length_map, ly14, ← hlt, List.take_length] at h16
            refine neD_bls (ns := tb) (lst_of (e16 _ _ h15)) (lst_of h16) ⟨_, rfl, iteF ?_⟩
            have e1416 := e15.trans e16
            refine ⟨xs.set j x8, ys.set j y8, bs ++ [q], _, _, _, _, _, rfl, (p14.same e1416).mono (by omega), ht14.gd e1416.gd, e1416 _ _ hB14, ?_, hyB12, bf14.gd e1416.gd⟩
            rw [List.length_append, List.length_singleton]
            omega
      · rintro σ H6 ⟨xs, ys, bs, v5, v6, v7, v8, v9, rfl, p6, ht6, hB6, hbl, hyB6, hbf⟩
        exact ⟨xs, ys, bs, v5, v6, v7, v8, v9, rfl, p6.mono (by omega), ht6, hB6, hbf⟩
    rintro σ H5 ⟨xs, ys, bs, v5, v6, v7, v8, v9, rfl, p5, ht5, hB5, bf5⟩
    refine ⟨fun σ H6 => ∃ z : Int, σ = [some (.ref x), some (.ref p), some (.ref PL), some (.ref SL), some (.ref B), v5, v6, v7, v8, some (.int z), none] ∧ 0 ≤ z ∧ z < 48 ∧ Gd H5 H6, ?_, ?_⟩
    · exact ⟨_, rfl, p, _, 48, rfl, p5, by decide, by decide, by decide, fun H14 z g14 p14 z0 z1 => ⟨z, rfl, z0, z1, g14⟩⟩
    rintro σ H6 ⟨z, rfl, z0, z1, g6⟩
    have hB6 := g6.1 _ _ (np_refs _) hB5
    have bf6 := bf5.gd g6
    refine ⟨fun σ H7 => True, ?_, fun σ H7 _ => k H7⟩
    refine ⟨_, rfl, B, rfl, ⟨_, lst_of hB6⟩, for_list (K := K) (a := B) (xs := bs.map V.ref) (fun i σ H7 => ∃ v7 v8, σ = [some (.ref x), some (.ref p), some (.ref PL), some (.ref SL), some (.ref B), v5, v6, v7, v8, some (.int z), none] ∧ Same H6 H7) ⟨_, _, rfl, Same.refl _⟩ (fun i σ H7 _ ⟨_, _, _, e7⟩ => lst_of (e7 _ _ hB6)) ?_ (fun _ _ _ => trivial)⟩
    rintro i v σ H7 hi ⟨v7, v8, rfl, e7⟩
    obtain ⟨t, ht, rfl⟩ : ∃ t, t ∈ bs ∧ v = .ref t := by
      obtain ⟨t, ht, e⟩ := List.mem_map.mp (List.mem_of_getElem? hi)
      exact ⟨t, ht, e.symm⟩
    obtain ⟨u, y, htt, ⟨l, px, hy⟩, _⟩ := bf6 t ht
    refine ⟨t, _, rfl, tup_of (e7 _ _ htt), rfl, _, _, rfl, _, _, rfl, rfl, ?_⟩
    have px7 := px.same e7
    obtain ⟨dd, w2, hh, hu⟩ := id px7
    have hy7 := e7 _ _ hy
    refine ⟨_, rfl, u, _, dd, _, _, rfl, hh, T.cl_Pupil, T.nA_Pupil_rights, rfl, _, rfl, y, _, rfl, .inl ⟨lst_of hy7, fun q nq => ?_⟩⟩
    have e8 := same_upd nq (o := .tup ((norm l).map V.int))
    refine neD_tup (tup_of (e8 _ _ hu)) (tup_of upd_same) ⟨_, rfl, ?_⟩
    rw [ne_false rfl]
    refine iteF ?_
    have px8 := px7.same e8
    refine ⟨_, rfl, u, dd, _, rfl, e8 _ _ hh, u, l, rfl, px8, _, rfl, by omega, by have := norm_len l; omega, ?_⟩
    refine ⟨_, rfl, y, _, rfl, .inl (lst_of (e8 _ _ hy7)), rfl, _, rfl, ?_⟩
    rw [List.length_map, show (!decide (V.int ((norm l).length : Nat) = V.int ((norm l).length : Nat))) = false by simp]
    refine iteF ?_
    refine ⟨_, rfl, _, rfl, u, dd, _, rfl, e8 _ _ hh, u, l, z, rfl, px8, _, rfl, ?_⟩
    refine ⟨_, rfl, _, rfl, in_k (.inl (lst_of (e8 _ _ hy7))) ?_⟩
    refine ⟨rfl, _, rfl, ?_⟩
    rw [dec_self]
    exact iteF ⟨_, _, rfl, e7.trans e8⟩
end
theorem all_mk {l : PySem.W.OpenLaw} {w : World} {K : PySem.W.Frag} {h : Heap} {mg : Str → Option Value} {fa c_Pupil f_is_question f_Pupil_init f_Pupil_le f_Pupil_or f_Pupil_and f_Pupil_sub f_Pupil_contains f_Pupil_len f_Pupil_eq f_Pupil_added f_l_pool f_l_draw f_l_set f_l_after f_l_right f_law : Addr} (X : K.In h) (G : h.Ns mainGlobals mg) (hfa : mg "law" = some (.ref fa))
    {t_QUESTIONS : Tok}
    {od_is_question an_is_question od_Pupil_init an_Pupil_init od_Pupil_le an_Pupil_le od_Pupil_or an_Pupil_or od_Pupil_and an_Pupil_and od_Pupil_sub an_Pupil_sub od_Pupil_contains an_Pupil_contains od_Pupil_len an_Pupil_len od_Pupil_eq an_Pupil_eq od_Pupil_added an_Pupil_added od_l_pool an_l_pool od_l_draw an_l_draw od_l_set an_l_set od_l_after an_l_after od_l_right an_l_right od_law an_law : Option Addr}
    {sl_is_question sl_Pupil_init sl_Pupil_le sl_Pupil_or sl_Pupil_and sl_Pupil_sub sl_Pupil_contains sl_Pupil_len sl_Pupil_eq sl_Pupil_added sl_l_pool sl_l_draw sl_l_set sl_l_after sl_l_right sl_law : Array (Option Value)}
    {oc_is_question kV_is_question dc_is_question pm_is_question cd_is_question ct_is_question oc_Pupil_init kV_Pupil_init dc_Pupil_init pm_Pupil_init cd_Pupil_init ct_Pupil_init oc_Pupil_le kV_Pupil_le dc_Pupil_le pm_Pupil_le cd_Pupil_le ct_Pupil_le oc_Pupil_or kV_Pupil_or dc_Pupil_or pm_Pupil_or cd_Pupil_or ct_Pupil_or oc_Pupil_and kV_Pupil_and dc_Pupil_and pm_Pupil_and cd_Pupil_and ct_Pupil_and oc_Pupil_sub kV_Pupil_sub dc_Pupil_sub pm_Pupil_sub cd_Pupil_sub ct_Pupil_sub oc_Pupil_contains kV_Pupil_contains dc_Pupil_contains pm_Pupil_contains cd_Pupil_contains ct_Pupil_contains oc_Pupil_len kV_Pupil_len dc_Pupil_len pm_Pupil_len cd_Pupil_len ct_Pupil_len oc_Pupil_eq kV_Pupil_eq dc_Pupil_eq pm_Pupil_eq cd_Pupil_eq ct_Pupil_eq oc_Pupil_added kV_Pupil_added dc_Pupil_added pm_Pupil_added cd_Pupil_added ct_Pupil_added oc_l_pool kV_l_pool dc_l_pool pm_l_pool cd_l_pool ct_l_pool oc_l_draw kV_l_draw dc_l_draw pm_l_draw cd_l_draw ct_l_draw oc_l_set kV_l_set dc_l_set pm_l_set cd_l_set ct_l_set oc_l_after kV_l_after dc_l_after pm_l_after cd_l_after ct_l_after oc_l_right kV_l_right dc_l_right pm_l_right cd_l_right ct_l_right oc_law kV_law dc_law pm_law cd_law ct_law : Value}
    (h_g_Pupil : PySem.W.nsIn K mainGlobals "Pupil" = some (some (.ref c_Pupil)))
    (h_pg_Pupil : PySem.W.plainGet K c_Pupil Str.empty = true)
    (h_hd_Pupil : PySem.W.hasDictIn K c_Pupil = true)
    (h_po_Pupil : PySem.W.plainOver K c_Pupil = true)
    (h_sa_Pupil : PySem.W.findIn K (.ref c_Pupil) "__setattr__" = some (some (.builtin "object.__setattr__")))
    (h_mkk_Pupil : PySem.W.makesIn K c_Pupil = true)
    (h_kc_Pupil : PySem.W.keepIn K (.ref c_Pupil) = true)
    (h_nA_Pupil_rights : PySem.W.findIn K (.ref c_Pupil) "rights" = some none)
    (h_sf_Pupil : PySem.W.selfFirst K c_Pupil = true)
    (h_ic1_Pupil : PySem.W.findIn K (.ref c_Pupil) "__class__" = some (some (.builtin "object.__class__")))
    (h_ic2_Pupil : PySem.W.specialIn K (.builtin "object.__class__") "__get__" = some (some (.builtin "getset_descriptor.__get__")))
    (h_ic3_Pupil : PySem.W.takesIn K (.builtin "object.__class__") = some true)
    (h_ic4_Pupil : PySem.W.mroIn K c_Pupil (.type "object") = some true)
    (h_a_is_question : PySem.W.nsIn K mainGlobals "is_question" = some (some (.ref f_is_question)))
    (h_l_is_question : K.lookup f_is_question = some ⟨oc_is_question, od_is_question, .func (PySem.W.fnOf "is_question" "is_question" (defArgs s_is_question) (defBody s_is_question) (defScope s_is_question) .none kV_is_question dc_is_question pm_is_question an_is_question cd_is_question ct_is_question), sl_is_question⟩)
    (h_c_is_question : PySem.W.codeIn K cd_is_question "is_question" = true)
    (h_k_is_question : PySem.W.keepIn K (.ref f_is_question) = true)
    (h_a_Pupil_init : PySem.W.findIn K (.ref c_Pupil) "__init__" = some (some (.ref f_Pupil_init)))
    (h_i_Pupil_init : PySem.W.isFn K (.ref f_Pupil_init) = true)
    (h_l_Pupil_init : K.lookup f_Pupil_init = some ⟨oc_Pupil_init, od_Pupil_init, .func (PySem.W.fnOf "__init__" "Pupil.__init__" (defArgs s_Pupil_init) (defBody s_Pupil_init) (defScope s_Pupil_init) .none kV_Pupil_init dc_Pupil_init pm_Pupil_init an_Pupil_init cd_Pupil_init ct_Pupil_init), sl_Pupil_init⟩)
    (h_c_Pupil_init : PySem.W.codeIn K cd_Pupil_init "Pupil.__init__" = true)
    (h_k_Pupil_init : PySem.W.keepIn K (.ref f_Pupil_init) = true)
    (h_a_Pupil_le : PySem.W.findIn K (.ref c_Pupil) "__le__" = some (some (.ref f_Pupil_le)))
    (h_i_Pupil_le : PySem.W.isFn K (.ref f_Pupil_le) = true)
    (h_l_Pupil_le : K.lookup f_Pupil_le = some ⟨oc_Pupil_le, od_Pupil_le, .func (PySem.W.fnOf "__le__" "Pupil.__le__" (defArgs s_Pupil_le) (defBody s_Pupil_le) (defScope s_Pupil_le) .none kV_Pupil_le dc_Pupil_le pm_Pupil_le an_Pupil_le cd_Pupil_le ct_Pupil_le), sl_Pupil_le⟩)
    (h_c_Pupil_le : PySem.W.codeIn K cd_Pupil_le "Pupil.__le__" = true)
    (h_k_Pupil_le : PySem.W.keepIn K (.ref f_Pupil_le) = true)
    (h_a_Pupil_or : PySem.W.findIn K (.ref c_Pupil) "__or__" = some (some (.ref f_Pupil_or)))
    (h_i_Pupil_or : PySem.W.isFn K (.ref f_Pupil_or) = true)
    (h_l_Pupil_or : K.lookup f_Pupil_or = some ⟨oc_Pupil_or, od_Pupil_or, .func (PySem.W.fnOf "__or__" "Pupil.__or__" (defArgs s_Pupil_or) (defBody s_Pupil_or) (defScope s_Pupil_or) .none kV_Pupil_or dc_Pupil_or pm_Pupil_or an_Pupil_or cd_Pupil_or ct_Pupil_or), sl_Pupil_or⟩)
    (h_c_Pupil_or : PySem.W.codeIn K cd_Pupil_or "Pupil.__or__" = true)
    (h_k_Pupil_or : PySem.W.keepIn K (.ref f_Pupil_or) = true)
    (h_a_Pupil_and : PySem.W.findIn K (.ref c_Pupil) "__and__" = some (some (.ref f_Pupil_and)))
    (h_i_Pupil_and : PySem.W.isFn K (.ref f_Pupil_and) = true)
    (h_l_Pupil_and : K.lookup f_Pupil_and = some ⟨oc_Pupil_and, od_Pupil_and, .func (PySem.W.fnOf "__and__" "Pupil.__and__" (defArgs s_Pupil_and) (defBody s_Pupil_and) (defScope s_Pupil_and) .none kV_Pupil_and dc_Pupil_and pm_Pupil_and an_Pupil_and cd_Pupil_and ct_Pupil_and), sl_Pupil_and⟩)
    (h_c_Pupil_and : PySem.W.codeIn K cd_Pupil_and "Pupil.__and__" = true)
    (h_k_Pupil_and : PySem.W.keepIn K (.ref f_Pupil_and) = true)
    (h_a_Pupil_sub : PySem.W.findIn K (.ref c_Pupil) "__sub__" = some (some (.ref f_Pupil_sub)))
    (h_i_Pupil_sub : PySem.W.isFn K (.ref f_Pupil_sub) = true)
    (h_l_Pupil_sub : K.lookup f_Pupil_sub = some ⟨oc_Pupil_sub, od_Pupil_sub, .func (PySem.W.fnOf "__sub__" "Pupil.__sub__" (defArgs s_Pupil_sub) (defBody s_Pupil_sub) (defScope s_Pupil_sub) .none kV_Pupil_sub dc_Pupil_sub pm_Pupil_sub an_Pupil_sub cd_Pupil_sub ct_Pupil_sub), sl_Pupil_sub⟩)
    (h_c_Pupil_sub : PySem.W.codeIn K cd_Pupil_sub "Pupil.__sub__" = true)
    (h_k_Pupil_sub : PySem.W.keepIn K (.ref f_Pupil_sub) = true)
    (h_a_Pupil_contains : PySem.W.findIn K (.ref c_Pupil) "__contains__" = some (some (.ref f_Pupil_contains)))
    (h_i_Pupil_contains : PySem.W.isFn K (.ref f_Pupil_contains) = true)
    (h_l_Pupil_contains : K.lookup f_Pupil_contains = some ⟨oc_Pupil_contains, od_Pupil_contains, .func (PySem.W.fnOf "__contains__" "Pupil.__contains__" (defArgs s_Pupil_contains) (defBody s_Pupil_contains) (defScope s_Pupil_contains) .none kV_Pupil_contains dc_Pupil_contains pm_Pupil_contains an_Pupil_contains cd_Pupil_contains ct_Pupil_contains), sl_Pupil_contains⟩)
    (h_c_Pupil_contains : PySem.W.codeIn K cd_Pupil_contains "Pupil.__contains__" = true)
    (h_k_Pupil_contains : PySem.W.keepIn K (.ref f_Pupil_contains) = true)
    (h_a_Pupil_len : PySem.W.findIn K (.ref c_Pupil) "__len__" = some (some (.ref f_Pupil_len)))
    (h_i_Pupil_len : PySem.W.isFn K (.ref f_Pupil_len) = true)
    (h_l_Pupil_len : K.lookup f_Pupil_len = some ⟨oc_Pupil_len, od_Pupil_len, .func (PySem.W.fnOf "__len__" "Pupil.__len__" (defArgs s_Pupil_len) (defBody s_Pupil_len) (defScope s_Pupil_len) .none kV_Pupil_len dc_Pupil_len pm_Pupil_len an_Pupil_len cd_Pupil_len ct_Pupil_len), sl_Pupil_len⟩)
    (h_c_Pupil_len : PySem.W.codeIn K cd_Pupil_len "Pupil.__len__" = true)
    (h_k_Pupil_len : PySem.W.keepIn K (.ref f_Pupil_len) = true)
    (h_a_Pupil_eq : PySem.W.findIn K (.ref c_Pupil) "__eq__" = some (some (.ref f_Pupil_eq)))
    (h_i_Pupil_eq : PySem.W.isFn K (.ref f_Pupil_eq) = true)
    (h_l_Pupil_eq : K.lookup f_Pupil_eq = some ⟨oc_Pupil_eq, od_Pupil_eq, .func (PySem.W.fnOf "__eq__" "Pupil.__eq__" (defArgs s_Pupil_eq) (defBody s_Pupil_eq) (defScope s_Pupil_eq) .none kV_Pupil_eq dc_Pupil_eq pm_Pupil_eq an_Pupil_eq cd_Pupil_eq ct_Pupil_eq), sl_Pupil_eq⟩)
    (h_c_Pupil_eq : PySem.W.codeIn K cd_Pupil_eq "Pupil.__eq__" = true)
    (h_k_Pupil_eq : PySem.W.keepIn K (.ref f_Pupil_eq) = true)
    (h_a_Pupil_added : PySem.W.findIn K (.ref c_Pupil) "added" = some (some (.ref f_Pupil_added)))
    (h_i_Pupil_added : PySem.W.isFn K (.ref f_Pupil_added) = true)
    (h_l_Pupil_added : K.lookup f_Pupil_added = some ⟨oc_Pupil_added, od_Pupil_added, .func (PySem.W.fnOf "added" "Pupil.added" (defArgs s_Pupil_added) (defBody s_Pupil_added) (defScope s_Pupil_added) .none kV_Pupil_added dc_Pupil_added pm_Pupil_added an_Pupil_added cd_Pupil_added ct_Pupil_added), sl_Pupil_added⟩)
    (h_c_Pupil_added : PySem.W.codeIn K cd_Pupil_added "Pupil.added" = true)
    (h_k_Pupil_added : PySem.W.keepIn K (.ref f_Pupil_added) = true)
    (h_a_l_pool : PySem.W.nsIn K mainGlobals "_law_pool" = some (some (.ref f_l_pool)))
    (h_l_l_pool : K.lookup f_l_pool = some ⟨oc_l_pool, od_l_pool, .func (PySem.W.fnOf "_law_pool" "_law_pool" (defArgs s_l_pool) (defBody s_l_pool) (defScope s_l_pool) .none kV_l_pool dc_l_pool pm_l_pool an_l_pool cd_l_pool ct_l_pool), sl_l_pool⟩)
    (h_c_l_pool : PySem.W.codeIn K cd_l_pool "_law_pool" = true)
    (h_k_l_pool : PySem.W.keepIn K (.ref f_l_pool) = true)
    (h_a_l_draw : PySem.W.nsIn K mainGlobals "_law_draw" = some (some (.ref f_l_draw)))
    (h_l_l_draw : K.lookup f_l_draw = some ⟨oc_l_draw, od_l_draw, .func (PySem.W.fnOf "_law_draw" "_law_draw" (defArgs s_l_draw) (defBody s_l_draw) (defScope s_l_draw) .none kV_l_draw dc_l_draw pm_l_draw an_l_draw cd_l_draw ct_l_draw), sl_l_draw⟩)
    (h_c_l_draw : PySem.W.codeIn K cd_l_draw "_law_draw" = true)
    (h_k_l_draw : PySem.W.keepIn K (.ref f_l_draw) = true)
    (h_a_l_set : PySem.W.nsIn K mainGlobals "_law_set" = some (some (.ref f_l_set)))
    (h_l_l_set : K.lookup f_l_set = some ⟨oc_l_set, od_l_set, .func (PySem.W.fnOf "_law_set" "_law_set" (defArgs s_l_set) (defBody s_l_set) (defScope s_l_set) .none kV_l_set dc_l_set pm_l_set an_l_set cd_l_set ct_l_set), sl_l_set⟩)
    (h_c_l_set : PySem.W.codeIn K cd_l_set "_law_set" = true)
    (h_k_l_set : PySem.W.keepIn K (.ref f_l_set) = true)
    (h_a_l_after : PySem.W.nsIn K mainGlobals "_law_after" = some (some (.ref f_l_after)))
    (h_l_l_after : K.lookup f_l_after = some ⟨oc_l_after, od_l_after, .func (PySem.W.fnOf "_law_after" "_law_after" (defArgs s_l_after) (defBody s_l_after) (defScope s_l_after) .none kV_l_after dc_l_after pm_l_after an_l_after cd_l_after ct_l_after), sl_l_after⟩)
    (h_c_l_after : PySem.W.codeIn K cd_l_after "_law_after" = true)
    (h_k_l_after : PySem.W.keepIn K (.ref f_l_after) = true)
    (h_a_l_right : PySem.W.nsIn K mainGlobals "_law_right" = some (some (.ref f_l_right)))
    (h_l_l_right : K.lookup f_l_right = some ⟨oc_l_right, od_l_right, .func (PySem.W.fnOf "_law_right" "_law_right" (defArgs s_l_right) (defBody s_l_right) (defScope s_l_right) .none kV_l_right dc_l_right pm_l_right an_l_right cd_l_right ct_l_right), sl_l_right⟩)
    (h_c_l_right : PySem.W.codeIn K cd_l_right "_law_right" = true)
    (h_k_l_right : PySem.W.keepIn K (.ref f_l_right) = true)
    (h_a_law : PySem.W.nsIn K mainGlobals "law" = some (some (.ref f_law)))
    (h_l_law : K.lookup f_law = some ⟨oc_law, od_law, .func (PySem.W.fnOf "law" "law" (defArgs s_law) (defBody s_law) (defScope s_law) .none kV_law dc_law pm_law an_law cd_law ct_law), sl_law⟩)
    (h_c_law : PySem.W.codeIn K cd_law "law" = true)
    (h_k_law : PySem.W.keepIn K (.ref f_law) = true)
    (h_g_QUESTIONS : PySem.W.nsIn K mainGlobals "QUESTIONS" = some (some (.int 48 t_QUESTIONS)))
    (h_z_abs : PySem.W.nsIn K mainGlobals "abs" = some none)
    (h_z_all : PySem.W.nsIn K mainGlobals "all" = some none)
    (h_z_int : PySem.W.nsIn K mainGlobals "int" = some none)
    (h_z_isinstance : PySem.W.nsIn K mainGlobals "isinstance" = some none)
    (h_z_len : PySem.W.nsIn K mainGlobals "len" = some none)
    (h_z_list : PySem.W.nsIn K mainGlobals "list" = some none)
    (h_z_range : PySem.W.nsIn K mainGlobals "range" = some none)
    (h_z_set : PySem.W.nsIn K mainGlobals "set" = some none)
    (h_z_sorted : PySem.W.nsIn K mainGlobals "sorted" = some none)
    (h_z_tuple : PySem.W.nsIn K mainGlobals "tuple" = some none) :
    ∃ fd : FuncData, (∀ (s : Shared) (v : Value), BindsTo s fd ⟨[v], []⟩ [("_law_script", v)]) ∧ ∀ base : Heap, K.In base → base.Ns mainGlobals mg → FnOk l.prog w K mg base CX0 6 fa fd ["_law_script"] (sp_law K) := by
  have e := hfa.symm.trans (PySem.W.mg_of X G h_a_law)
  cases e
  have T : Txt K mg (Ad.mk c_Pupil f_is_question (PySem.W.fnOf "is_question" "is_question" (defArgs s_is_question) (defBody s_is_question) (defScope s_is_question) .none kV_is_question dc_is_question pm_is_question an_is_question cd_is_question ct_is_question) f_Pupil_init (PySem.W.fnOf "__init__" "Pupil.__init__" (defArgs s_Pupil_init) (defBody s_Pupil_init) (defScope s_Pupil_init) .none kV_Pupil_init dc_Pupil_init pm_Pupil_init an_Pupil_init cd_Pupil_init ct_Pupil_init) f_Pupil_le (PySem.W.fnOf "__le__" "Pupil.__le__" (defArgs s_Pupil_le) (defBody s_Pupil_le) (defScope s_Pupil_le) .none kV_Pupil_le dc_Pupil_le pm_Pupil_le an_Pupil_le cd_Pupil_le ct_Pupil_le) f_Pupil_or (PySem.W.fnOf "__or__" "Pupil.__or__" (defArgs s_Pupil_or) (defBody s_Pupil_or) (defScope s_Pupil_or) .none kV_Pupil_or dc_Pupil_or pm_Pupil_or an_Pupil_or cd_Pupil_or ct_Pupil_or) f_Pupil_and (PySem.W.fnOf "__and__" "Pupil.__and__" (defArgs s_Pupil_and) (defBody s_Pupil_and) (defScope s_Pupil_and) .none kV_Pupil_and dc_Pupil_and pm_Pupil_and an_Pupil_and cd_Pupil_and ct_Pupil_and) f_Pupil_sub (PySem.W.fnOf "__sub__" "Pupil.__sub__" (defArgs s_Pupil_sub) (defBody s_Pupil_sub) (defScope s_Pupil_sub) .none kV_Pupil_sub dc_Pupil_sub pm_Pupil_sub an_Pupil_sub cd_Pupil_sub ct_Pupil_sub) f_Pupil_contains (PySem.W.fnOf "__contains__" "Pupil.__contains__" (defArgs s_Pupil_contains) (defBody s_Pupil_contains) (defScope s_Pupil_contains) .none kV_Pupil_contains dc_Pupil_contains pm_Pupil_contains an_Pupil_contains cd_Pupil_contains ct_Pupil_contains) f_Pupil_len (PySem.W.fnOf "__len__" "Pupil.__len__" (defArgs s_Pupil_len) (defBody s_Pupil_len) (defScope s_Pupil_len) .none kV_Pupil_len dc_Pupil_len pm_Pupil_len an_Pupil_len cd_Pupil_len ct_Pupil_len) f_Pupil_eq (PySem.W.fnOf "__eq__" "Pupil.__eq__" (defArgs s_Pupil_eq) (defBody s_Pupil_eq) (defScope s_Pupil_eq) .none kV_Pupil_eq dc_Pupil_eq pm_Pupil_eq an_Pupil_eq cd_Pupil_eq ct_Pupil_eq) f_Pupil_added (PySem.W.fnOf "added" "Pupil.added" (defArgs s_Pupil_added) (defBody s_Pupil_added) (defScope s_Pupil_added) .none kV_Pupil_added dc_Pupil_added pm_Pupil_added an_Pupil_added cd_Pupil_added ct_Pupil_added) f_l_pool (PySem.W.fnOf "_law_pool" "_law_pool" (defArgs s_l_pool) (defBody s_l_pool) (defScope s_l_pool) .none kV_l_pool dc_l_pool pm_l_pool an_l_pool cd_l_pool ct_l_pool) f_l_draw (PySem.W.fnOf "_law_draw" "_law_draw" (defArgs s_l_draw) (defBody s_l_draw) (defScope s_l_draw) .none kV_l_draw dc_l_draw pm_l_draw an_l_draw cd_l_draw ct_l_draw) f_l_set (PySem.W.fnOf "_law_set" "_law_set" (defArgs s_l_set) (defBody s_l_set) (defScope s_l_set) .none kV_l_set dc_l_set pm_l_set an_l_set cd_l_set ct_l_set) f_l_after (PySem.W.fnOf "_law_after" "_law_after" (defArgs s_l_after) (defBody s_l_after) (defScope s_l_after) .none kV_l_after dc_l_after pm_l_after an_l_after cd_l_after ct_l_after) f_l_right (PySem.W.fnOf "_law_right" "_law_right" (defArgs s_l_right) (defBody s_l_right) (defScope s_l_right) .none kV_l_right dc_l_right pm_l_right an_l_right cd_l_right ct_l_right) fa (PySem.W.fnOf "law" "law" (defArgs s_law) (defBody s_law) (defScope s_law) .none kV_law dc_law pm_law an_law cd_law ct_law) t_QUESTIONS) :=
    Txt.mk (PySem.W.mg_of X G h_g_Pupil) (⟨h_pg_Pupil, h_hd_Pupil, h_po_Pupil, h_sa_Pupil⟩) (⟨h_mkk_Pupil, h_a_Pupil_init, h_i_Pupil_init, h_kc_Pupil⟩) (h_nA_Pupil_rights) (h_sf_Pupil) (⟨h_ic1_Pupil, h_ic2_Pupil, h_ic3_Pupil, h_ic4_Pupil⟩) (if_pos (beq_self_eq_true _)) (fun_mk h_l_is_question h_c_is_question h_k_is_question) ((fun_mk (st := s_is_question) h_l_is_question h_c_is_question h_k_is_question).binds (ps := P_is_question) fun _ _ _ _ _ _ us hl => match us, hl with | [_], _ => rfl) (h_k_is_question) (PySem.W.mg_of X G h_a_is_question) (fun_mk h_l_Pupil_init h_c_Pupil_init h_k_Pupil_init) ((fun_mk (st := s_Pupil_init) h_l_Pupil_init h_c_Pupil_init h_k_Pupil_init).binds (ps := P_Pupil_init) fun _ _ _ _ _ _ us hl => match us, hl with | [_, _], _ => rfl) (h_k_Pupil_init) (h_i_Pupil_init) (fun_mk h_l_Pupil_le h_c_Pupil_le h_k_Pupil_le) ((fun_mk (st := s_Pupil_le) h_l_Pupil_le h_c_Pupil_le h_k_Pupil_le).binds (ps := P_Pupil_le) fun _ _ _ _ _ _ us hl => match us, hl with | [_, _], _ => rfl) (h_k_Pupil_le) (h_i_Pupil_le) (h_a_Pupil_le) (fun_mk h_l_Pupil_or h_c_Pupil_or h_k_Pupil_or) ((fun_mk (st := s_Pupil_or) h_l_Pupil_or h_c_Pupil_or h_k_Pupil_or).binds (ps := P_Pupil_or) fun _ _ _ _ _ _ us hl => match us, hl with | [_, _], _ => rfl) (h_k_Pupil_or) (h_i_Pupil_or) (h_a_Pupil_or) (fun_mk h_l_Pupil_and h_c_Pupil_and h_k_Pupil_and) ((fun_mk (st := s_Pupil_and) h_l_Pupil_and h_c_Pupil_and h_k_Pupil_and).binds (ps := P_Pupil_and) fun _ _ _ _ _ _ us hl => match us, hl with | [_, _], _ => rfl) (h_k_Pupil_and) (h_i_Pupil_and) (h_a_Pupil_and) (fun_mk h_l_Pupil_sub h_c_Pupil_sub h_k_Pupil_sub) ((fun_mk (st := s_Pupil_sub) h_l_Pupil_sub h_c_Pupil_sub h_k_Pupil_sub).binds (ps := P_Pupil_sub) fun _ _ _ _ _ _ us hl => match us, hl with | [_, _], _ => rfl) (h_k_Pupil_sub) (h_i_Pupil_sub) (h_a_Pupil_sub) (fun_mk h_l_Pupil_contains h_c_Pupil_contains h_k_Pupil_contains) ((fun_mk (st := s_Pupil_contains) h_l_Pupil_contains h_c_Pupil_contains h_k_Pupil_contains).binds (ps := P_Pupil_contains) fun _ _ _ _ _ _ us hl => match us, hl with | [_, _], _ => rfl) (h_k_Pupil_contains) (h_i_Pupil_contains) (h_a_Pupil_contains) (fun_mk h_l_Pupil_len h_c_Pupil_len h_k_Pupil_len) ((fun_mk (st := s_Pupil_len) h_l_Pupil_len h_c_Pupil_len h_k_Pupil_len).binds (ps := P_Pupil_len) fun _ _ _ _ _ _ us hl => match us, hl with | [_], _ => rfl) (h_k_Pupil_len) (h_i_Pupil_len) (h_a_Pupil_len) (fun_mk h_l_Pupil_eq h_c_Pupil_eq h_k_Pupil_eq) ((fun_mk (st := s_Pupil_eq) h_l_Pupil_eq h_c_Pupil_eq h_k_Pupil_eq).binds (ps := P_Pupil_eq) fun _ _ _ _ _ _ us hl => match us, hl with | [_, _], _ => rfl) (h_k_Pupil_eq) (h_i_Pupil_eq) (h_a_Pupil_eq) (fun_mk h_l_Pupil_added h_c_Pupil_added h_k_Pupil_added) ((fun_mk (st := s_Pupil_added) h_l_Pupil_added h_c_Pupil_added h_k_Pupil_added).binds (ps := P_Pupil_added) fun _ _ _ _ _ _ us hl => match us, hl with | [_, _], _ => rfl) (h_k_Pupil_added) (h_i_Pupil_added) (⟨h_a_Pupil_added, h_i_Pupil_added, h_k_Pupil_added⟩) (fun_mk h_l_l_pool h_c_l_pool h_k_l_pool) ((fun_mk (st := s_l_pool) h_l_l_pool h_c_l_pool h_k_l_pool).binds (ps := P_l_pool) fun _ _ _ _ _ _ us hl => match us, hl with | [_], _ => rfl) (h_k_l_pool) (PySem.W.mg_of X G h_a_l_pool) (fun_mk h_l_l_draw h_c_l_draw h_k_l_draw) ((fun_mk (st := s_l_draw) h_l_l_draw h_c_l_draw h_k_l_draw).binds (ps := P_l_draw) fun _ _ _ _ _ _ us hl => match us, hl with | [_, _], _ => rfl) (h_k_l_draw) (PySem.W.mg_of X G h_a_l_draw) (fun_mk h_l_l_set h_c_l_set h_k_l_set) ((fun_mk (st := s_l_set) h_l_l_set h_c_l_set h_k_l_set).binds (ps := P_l_set) fun _ _ _ _ _ _ us hl => match us, hl with | [_], _ => rfl) (h_k_l_set) (PySem.W.mg_of X G h_a_l_set) (fun_mk h_l_l_after h_c_l_after h_k_l_after) ((fun_mk (st := s_l_after) h_l_l_after h_c_l_after h_k_l_after).binds (ps := P_l_after) fun _ _ _ _ _ _ us hl => match us, hl with | [_, _, _], _ => rfl) (h_k_l_after) (PySem.W.mg_of X G h_a_l_after) (fun_mk h_l_l_right h_c_l_right h_k_l_right) ((fun_mk (st := s_l_right) h_l_l_right h_c_l_right h_k_l_right).binds (ps := P_l_right) fun _ _ _ _ _ _ us hl => match us, hl with | [_, _], _ => rfl) (h_k_l_right) (PySem.W.mg_of X G h_a_l_right) (fun_mk h_l_law h_c_law h_k_law) ((fun_mk (st := s_law) h_l_law h_c_law h_k_law).binds (ps := P_law) fun _ _ _ _ _ _ us hl => match us, hl with | [_], _ => rfl) (h_k_law) (PySem.W.mg_of X G h_a_law) (PySem.W.mg_of X G h_g_QUESTIONS) (PySem.W.mg_none_of X G h_z_abs) (PySem.W.mg_none_of X G h_z_all) (PySem.W.mg_none_of X G h_z_int) (PySem.W.mg_none_of X G h_z_isinstance) (PySem.W.mg_none_of X G h_z_len) (PySem.W.mg_none_of X G h_z_list) (PySem.W.mg_none_of X G h_z_range) (PySem.W.mg_none_of X G h_z_set) (PySem.W.mg_none_of X G h_z_sorted) (PySem.W.mg_none_of X G h_z_tuple)
  exact ⟨_, fun s v => .of_eq rfl, fun base _ _ => ok_law T⟩
theorem walk {l : PySem.W.OpenLaw} {q : Program} {loose : List Str} {XP : (Str → Option Value) → Heap → Prop} {YP : World → Heap → Prop} {d : DefRec} {K : Params → PySem.W.Frag} (hn : l.most = some 63) (hdf : d.params.defaults = [])
    (hY : ∀ (w : World) (h : Heap), YP w h → (K w.params).In h)
    (F : ∀ (w : World) (mg : Str → Option Value) (fa : Addr) (h : Heap), (K w.params).In h → h.Ns mainGlobals mg → mg d.name = some (.ref fa) →
      ∃ fd : FuncData, (∀ (s : Shared) (u : Value), BindsTo s fd ⟨[u], []⟩ [("_law_script", u)]) ∧ ∀ base : Heap, (K w.params).In base → base.Ns mainGlobals mg → FnOk l.prog w (K w.params) mg base CX0 6 fa fd ["_law_script"] (sp_law (K w.params))) :
    PySem.W.WalkO q loose XP YP l.row.toRowW d [] (fun f vs => PySem.call f vs) :=
  L2.walk_of (n := 63) (k := 6) (x := "_law_script") (CX := fun _ => CX0) (sp := fun w => sp_law (K w.params)) hn (by decide) hdf ⟨rfl, by decide, by decide⟩ hY F (fun _ _ a ns hl hO hS => ⟨a, ns, rfl, scr_of hO hS, hl, fun _ => rfl⟩) fun _ _ _ _ _ z => z
end K15

open PySem PySem.W PyProof.Rows in
set_option maxRecDepth 100000 in
set_option maxHeartbeats 0 in
theorem PySem.Challenge.cw_steppedtests_k15_whole_sets_of_questions_holds : PySem.Challenge.rw_steppedtests_k15_whole_sets_of_questions.Holds := by
  w_on; o_law; k_head; (case hw => w_witness2)
  k_fill
  refine K15.walk (l := PySem.Challenge.rw_steppedtests_k15_whole_sets_of_questions) rfl rfl (fun w h Y => PySem.W.kIn_of Y) ?F
  case F =>
    intro w mg fa h KX G hmg
    refine' K15.all_mk KX G hmg ?h_g_Pupil ?h_pg_Pupil ?h_hd_Pupil ?h_po_Pupil ?h_sa_Pupil ?h_mkk_Pupil ?h_kc_Pupil ?h_nA_Pupil_rights ?h_sf_Pupil ?h_ic1_Pupil ?h_ic2_Pupil ?h_ic3_Pupil ?h_ic4_Pupil ?h_a_is_question ?h_l_is_question ?h_c_is_question ?h_k_is_question ?h_a_Pupil_init ?h_i_Pupil_init ?h_l_Pupil_init ?h_c_Pupil_init ?h_k_Pupil_init ?h_a_Pupil_le ?h_i_Pupil_le ?h_l_Pupil_le ?h_c_Pupil_le ?h_k_Pupil_le ?h_a_Pupil_or ?h_i_Pupil_or ?h_l_Pupil_or ?h_c_Pupil_or ?h_k_Pupil_or ?h_a_Pupil_and ?h_i_Pupil_and ?h_l_Pupil_and ?h_c_Pupil_and ?h_k_Pupil_and ?h_a_Pupil_sub ?h_i_Pupil_sub ?h_l_Pupil_sub ?h_c_Pupil_sub ?h_k_Pupil_sub ?h_a_Pupil_contains ?h_i_Pupil_contains ?h_l_Pupil_contains ?h_c_Pupil_contains ?h_k_Pupil_contains ?h_a_Pupil_len ?h_i_Pupil_len ?h_l_Pupil_len ?h_c_Pupil_len ?h_k_Pupil_len ?h_a_Pupil_eq ?h_i_Pupil_eq ?h_l_Pupil_eq ?h_c_Pupil_eq ?h_k_Pupil_eq ?h_a_Pupil_added ?h_i_Pupil_added ?h_l_Pupil_added ?h_c_Pupil_added ?h_k_Pupil_added ?h_a_l_pool ?h_l_l_pool ?h_c_l_pool ?h_k_l_pool ?h_a_l_draw ?h_l_l_draw ?h_c_l_draw ?h_k_l_draw ?h_a_l_set ?h_l_l_set ?h_c_l_set ?h_k_l_set ?h_a_l_after ?h_l_l_after ?h_c_l_after ?h_k_l_after ?h_a_l_right ?h_l_l_right ?h_c_l_right ?h_k_l_right ?h_a_law ?h_l_law ?h_c_law ?h_k_law ?h_g_QUESTIONS ?h_z_abs ?h_z_all ?h_z_int ?h_z_isinstance ?h_z_len ?h_z_list ?h_z_range ?h_z_set ?h_z_sorted ?h_z_tuple
    (case h_g_Pupil => k_is)
    (case h_pg_Pupil => k_is)
    (case h_hd_Pupil => k_is)
    (case h_po_Pupil => k_is)
    (case h_sa_Pupil => k_is)
    (case h_mkk_Pupil => k_is)
    (case h_kc_Pupil => k_is)
    (case h_nA_Pupil_rights => k_is)
    (case h_sf_Pupil => k_is)
    (case h_ic1_Pupil => k_is)
    (case h_ic2_Pupil => k_is)
    (case h_ic3_Pupil => k_is)
    (case h_ic4_Pupil => k_is)
    (case h_a_is_question => k_is)
    (case h_l_is_question => k_is)
    (case h_c_is_question => k_is)
    (case h_k_is_question => k_is)
    (case h_a_Pupil_init => k_is)
    (case h_i_Pupil_init => k_is)
    (case h_l_Pupil_init => k_is)
    (case h_c_Pupil_init => k_is)
    (case h_k_Pupil_init => k_is)
    (case h_a_Pupil_le => k_is)
    (case h_i_Pupil_le => k_is)
    (case h_l_Pupil_le => k_is)
    (case h_c_Pupil_le => k_is)
    (case h_k_Pupil_le => k_is)
    (case h_a_Pupil_or => k_is)
    (case h_i_Pupil_or => k_is)
    (case h_l_Pupil_or => k_is)
    (case h_c_Pupil_or => k_is)
    (case h_k_Pupil_or => k_is)
    (case h_a_Pupil_and => k_is)
    (case h_i_Pupil_and => k_is)
    (case h_l_Pupil_and => k_is)
    (case h_c_Pupil_and => k_is)
    (case h_k_Pupil_and => k_is)
    (case h_a_Pupil_sub => k_is)
    (case h_i_Pupil_sub => k_is)
    (case h_l_Pupil_sub => k_is)
    (case h_c_Pupil_sub => k_is)
    (case h_k_Pupil_sub => k_is)
    (case h_a_Pupil_contains => k_is)
    (case h_i_Pupil_contains => k_is)
    (case h_l_Pupil_contains => k_is)
    (case h_c_Pupil_contains => k_is)
    (case h_k_Pupil_contains => k_is)
    (case h_a_Pupil_len => k_is)
    (case h_i_Pupil_len => k_is)
    (case h_l_Pupil_len => k_is)
    (case h_c_Pupil_len => k_is)
    (case h_k_Pupil_len => k_is)
    (case h_a_Pupil_eq => k_is)
    (case h_i_Pupil_eq => k_is)
    (case h_l_Pupil_eq => k_is)
    (case h_c_Pupil_eq => k_is)
    (case h_k_Pupil_eq => k_is)
    (case h_a_Pupil_added => k_is)
    (case h_i_Pupil_added => k_is)
    (case h_l_Pupil_added => k_is)
    (case h_c_Pupil_added => k_is)
    (case h_k_Pupil_added => k_is)
    (case h_a_l_pool => k_is)
    (case h_l_l_pool => k_is)
    (case h_c_l_pool => k_is)
    (case h_k_l_pool => k_is)
    (case h_a_l_draw => k_is)
    (case h_l_l_draw => k_is)
    (case h_c_l_draw => k_is)
    (case h_k_l_draw => k_is)
    (case h_a_l_set => k_is)
    (case h_l_l_set => k_is)
    (case h_c_l_set => k_is)
    (case h_k_l_set => k_is)
    (case h_a_l_after => k_is)
    (case h_l_l_after => k_is)
    (case h_c_l_after => k_is)
    (case h_k_l_after => k_is)
    (case h_a_l_right => k_is)
    (case h_l_l_right => k_is)
    (case h_c_l_right => k_is)
    (case h_k_l_right => k_is)
    (case h_a_law => k_is)
    (case h_l_law => k_is)
    (case h_c_law => k_is)
    (case h_k_law => k_is)
    (case h_g_QUESTIONS => k_is)
    (case h_z_abs => k_is)
    (case h_z_all => k_is)
    (case h_z_int => k_is)
    (case h_z_isinstance => k_is)
    (case h_z_len => k_is)
    (case h_z_list => k_is)
    (case h_z_range => k_is)
    (case h_z_set => k_is)
    (case h_z_sorted => k_is)
    (case h_z_tuple => k_is)
