import PyProof.Rows.All
import Wide.All
import OpenK.AllK
import Wide.FinOn
import HandS.ForMost
import HandS.ForExc
import HandS.OwnEq
import HandS.Wide
import HandS.SetFor
import HandS.Strs
import HandS.IsInst
import HandS.TupAny
import HandS.Style
import HandS.Codes
import HandS.Flow
import HandS.Evl
import HandS.Conv
import KE.KEqDeep
import HandS.ExcInit
import HandS.ExcField
import HandS.ExcIs
import HandS.FStr
import HandS.TryMany
import HandS.Defaults
import HandS.Iter
import HandS.Zip
import HandS.Text
import HandS.RevRange
import HandS.Deep
import KE.KOpsOwn
import HandS.Gcd
import PySem.Challenge.RW_steppedtests_k45_whole_order_of_ratios
set_option Elab.async false
set_option linter.all false
set_option maxRecDepth 100000
set_option exponentiation.threshold 1000
set_option maxHeartbeats 4000000
namespace L2
open PySem PySem.Spec PyProof.Rows
/-! ## own special methods of a class: | & - by __or__ .., <= == by __le__ .., in by __contains__, len by __len__ -/
section
variable {X : Cx} {n : Nat} {CX : CXT} {C f : Addr} {fd : FuncData} {ps : List Str} {sp : Sp} {E : XK} {pins : List (Addr × Obj)} {σ : St} {H : Hp} {s : Shared}
theorem run_own {A : Around} {vs : List V} {us : List Value} {Q : VK} (F : FnOk X.prog X.w X.K X.mg X.base CX n f fd ps sp) (sb : Sub X n A) (hb : Binds X.K fd ps []) (hx : Passes CX X E)
    (I : Inv X pins σ H s) (r : Vals vs us) (h : sp vs H Q E) : wpAny (model X.prog X.w) A (call (.ref f) us) (EP X pins σ Q) X.xe s := by
  have e0 : Env0 X.prog X.w X.K X.mg X.base A X.stack s H := by
    have e := I.env0
    exact ⟨by rw [sb.fr]; exact e.frames, e.mod, e.bs, e.bsz, e.funs, e.frf, e.hok, e.bare⟩
  have hl := F.len _ _ _ _ h
  have hl2 : us.length = ps.length := by rw [← hl, r.length]
  refine wpAny_call (codeAny_mono (F.run A X.stack s H ⟨us, []⟩ us vs Q E sb.room e0 (by
    have := hb s us I.kIn (by simpa using hl2)
    simpa using this) r h) fun r' s' hq => ?_)
  cases r' with
  | error e => exact hx pins σ H s e s' I hq
  | ok fl =>
    cases fl with
    | ret w => exact I.after hq
    | next => exact False.elim hq
    | brk => exact False.elim hq
    | cont => exact False.elim hq
/-- a value of the layer is never NotImplemented -/
theorem back_ep {u : Value} {s' : Shared} {Q : VK} (h : EP X pins σ Q u s') : PySem.W.CmpBack (EP X pins σ Q) u s' := by
  obtain ⟨v, H', I', r, q⟩ := id h
  cases v with
  | non => cases r; exact h
  | bl b => cases r; exact h
  | int i => obtain ⟨t, rfl⟩ := r; exact h
  | str x => obtain ⟨t, rfl⟩ := r; exact h
  | byt x => obtain ⟨t, rfl⟩ := r; exact h
  | flt x => obtain ⟨t, rfl⟩ := r; exact h
  | ref a => cases r; exact h
  | ty m => cases r; exact h
def rOwn (C : Addr) (sp : Sp) (E : XK) : R2 := fun x y H Q => ∃ a b dx dy fs gs, x = .ref a ∧ y = .ref b ∧ H a = some (.ins C dx fs) ∧ H b = some (.ins C dy gs) ∧ sp [.ref a, .ref b] H Q E
theorem op_own {op : Operator} (F : FnOk X.prog X.w X.K X.mg X.base CX n f fd ps sp) (hr : Room n X.A) (hs : PySem.W.findIn X.K (.ref C) (PySem.dunder op.info.2) = some (some (.ref f))) (hf : PySem.W.isFn X.K (.ref f) = true)
    (hc : PySem.W.selfFirst X.K C = true) (hb : Binds X.K fd ps []) (hx : Passes CX X E) : OpR X (binaryOp op) (rOwn C sp E) := by
  intro pins s σ H x y v u Q I rx ry h
  obtain ⟨a, b, dx, dy, fs, gs, rfl, rfl, ha, hb', h⟩ := h
  cases rx
  cases ry
  obtain ⟨mA, J, _⟩ := ins_get I.hok ha
  obtain ⟨mB, J', _⟩ := ins_get I.hok hb'
  obtain ⟨od, J, _⟩ := J.look
  obtain ⟨od', J', _⟩ := J'.look
  obtain ⟨m, hF⟩ := I.fr
  refine PySem.W.binop_K hF I.ok.mod.kin J J'.type hc hs hf ?_
  exact thn (run_own (vs := [.ref a, .ref b]) F ⟨hr, rfl⟩ hb hx I (.cons rfl (.cons rfl .nil)) h) fun u s' q => back_ep q
theorem cmp_own {op : CmpOp} (F : FnOk X.prog X.w X.K X.mg X.base CX n f fd ps sp) (hr : Room n X.A) (hs : PySem.W.findIn X.K (.ref C) (PySem.cmpInfo op).2.1 = some (some (.ref f))) (hf : PySem.W.isFn X.K (.ref f) = true)
    (hb : Binds X.K fd ps []) (hx : Passes CX X E) : OpR X (richCompare op) (rOwn C sp E) := by
  intro pins s σ H x y v u Q I rx ry h
  obtain ⟨a, b, dx, dy, fs, gs, rfl, rfl, ha, hb', h⟩ := h
  cases rx
  cases ry
  obtain ⟨mA, J, _⟩ := ins_get I.hok ha
  obtain ⟨mB, J', _⟩ := ins_get I.hok hb'
  obtain ⟨od, J, _⟩ := J.look
  obtain ⟨od', J', _⟩ := J'.look
  obtain ⟨m, hF⟩ := I.fr
  refine PySem.W.cmp_K hr.units0 hF I.ok.mod.kin J J'.type (by simp [PySem.W.notFirst]) hs hf ?_
  exact thn (run_own (vs := [.ref a, .ref b]) F ⟨hr, rfl⟩ hb hx I (.cons rfl (.cons rfl .nil)) h) fun u s' q => back_ep q
def rOwnIn (C : Addr) (sp : Sp) (E : XK) (neg : Bool) : R2 := fun x y H Q => ∃ b dy gs, y = .ref b ∧ H b = some (.ins C dy gs) ∧ sp [.ref b, x] H (fun v H' => ∃ k, v = .bl k ∧ Q (.bl (if neg then !k else k)) H') E
theorem in_own (F : FnOk X.prog X.w X.K X.mg X.base CX n f fd ps sp) (hr : Room n X.A) (hs : PySem.W.findIn X.K (.ref C) "__contains__" = some (some (.ref f))) (hf : PySem.W.isFn X.K (.ref f) = true)
    (hb : Binds X.K fd ps []) (hx : Passes CX X E) : OpR X (compareOp .In) (rOwnIn C sp E false) := by
  intro pins s σ H x y v u Q I rx ry h
  obtain ⟨b, dy, gs, rfl, hb', h⟩ := h
  cases ry
  obtain ⟨mB, J', _⟩ := ins_get I.hok hb'
  obtain ⟨od', J', _⟩ := J'.look
  obtain ⟨m, hF⟩ := I.fr
  refine PySem.W.in_K hF I.ok.mod.kin J' hs hf ?_
  refine thn (run_own (vs := [.ref b, x]) F ⟨hr, rfl⟩ hb hx I (.cons rfl (.cons rx .nil)) h) fun u s' q => ?_
  obtain ⟨z, H', I', rz, k, rfl, q⟩ := q
  cases rz
  exact wpAny_truthy_bool ⟨.bl k, H', I', rfl, q⟩
theorem notIn_own (F : FnOk X.prog X.w X.K X.mg X.base CX n f fd ps sp) (hr : Room n X.A) (hs : PySem.W.findIn X.K (.ref C) "__contains__" = some (some (.ref f))) (hf : PySem.W.isFn X.K (.ref f) = true)
    (hb : Binds X.K fd ps []) (hx : Passes CX X E) : OpR X (compareOp .NotIn) (rOwnIn C sp E true) := by
  intro pins s σ H x y v u Q I rx ry h
  obtain ⟨b, dy, gs, rfl, hb', h⟩ := h
  cases ry
  obtain ⟨mB, J', _⟩ := ins_get I.hok hb'
  obtain ⟨od', J', _⟩ := J'.look
  obtain ⟨m, hF⟩ := I.fr
  refine PySem.W.notIn_K hF I.ok.mod.kin J' hs hf ?_
  refine thn (run_own (vs := [.ref b, x]) F ⟨hr, rfl⟩ hb hx I (.cons rfl (.cons rx .nil)) h) fun u s' q => ?_
  obtain ⟨z, H', I', rz, k, rfl, q⟩ := q
  cases rz
  exact wpAny_truthy_bool ⟨.bl (!k), H', I', rfl, q⟩
def rOwnLen (C : Addr) (sp : Sp) (E : XK) : List V → Hp → VK → Prop := fun xs H Q => ∃ b dy gs, xs = [.ref b] ∧ H b = some (.ins C dy gs) ∧ sp [.ref b] H (fun v H' => ∃ k : Int, v = .int k ∧ 0 ≤ k ∧ k < 2 ^ 63 ∧ Q (.int k) H') E
theorem len_own (F : FnOk X.prog X.w X.K X.mg X.base CX n f fd ps sp) (hr : Room (n + 1) X.A) (hs : PySem.W.findIn X.K (.ref C) "__len__" = some (some (.ref f))) (hf : PySem.W.isFn X.K (.ref f) = true)
    (hb : Binds X.K fd ps []) (hx : Passes CX X E) : CallR X (.builtin "len") (rOwnLen C sp E) := by
  intro pins s σ H xs us Q I r h
  obtain ⟨b, dy, gs, rfl, hb', h⟩ := h
  rw [Vals.ref1 r]
  obtain ⟨mB, J', _⟩ := ins_get I.hok hb'
  obtain ⟨od', J', _⟩ := J'.look
  obtain ⟨m, hF⟩ := I.fr
  refine PySem.W.len_K hF I.ok.mod.kin J' hs hf ?_
  have sb : Sub X (n + 1) X.A := ⟨hr, rfl⟩
  refine thn (run_own (vs := [.ref b]) F sb.in1 hb hx I (.cons rfl .nil) h) fun u s' q => ?_
  obtain ⟨z, H', I', rz, k, rfl, h0, h1, q⟩ := q
  obtain ⟨t, rfl⟩ := rz
  exact ⟨⟨h0, h1⟩, .int k, H', I'.tok _, ⟨_, rfl⟩, q⟩
/-- web[i] by an own __getitem__ -/
def rOwnIx (C : Addr) (sp : Sp) (E : XK) : R2 := fun x y H Q => ∃ a dx fs, x = .ref a ∧ H a = some (.ins C dx fs) ∧ sp [.ref a, y] H Q E
theorem pe_ownIx {a b : Expr} {ta tb : TE} {pos : Pos} (F : FnOk X.prog X.w X.K X.mg X.base CX n f fd ps sp) (hr : Room (n + 1) X.A) (hs : PySem.W.findIn X.K (.ref C) "__getitem__" = some (some (.ref f))) (hfn : PySem.W.fnIn X.K f = true) (hf : PySem.W.isFn X.K (.ref f) = true)
    (hb : Binds X.K fd ps []) (hx : Passes CX X E) (ha : PE X a ta) (hb' : PE X b tb)
    (hsl : ∀ x i, subscripted b true (.ref x) i = runValue (.builtin "lifetime.subscript" ⟨[.ref x, i], []⟩) := by intro _ _; with_unfolding_all rfl) : PE X (.Subscript a b pos) (tOp (rOwnIx C sp E) ta tb) := by
  refine ⟨fun pins s σ H Q I h => ?_⟩
  refine Subscript_ (binT ha hb' I h fun v u s2 x y H2 I2 rx ry q => ?_)
  obtain ⟨c, dx, fs, rfl, hc, q⟩ := q
  cases rx
  obtain ⟨mB, J', _⟩ := ins_get I2.hok hc
  obtain ⟨od', J', _⟩ := J'.look
  obtain ⟨m, hF⟩ := I2.fr
  have sb : Sub X (n + 1) X.A := ⟨hr, rfl⟩
  exact PySem.W.sub_K hF I2.ok.mod.kin J' hs hfn hf (run_own (vs := [.ref c, y]) F sb.in1 hb hx I2 (.cons rfl (.cons ry .nil)) q) (hsl _ _)
/-- set(t), t a tuple of ints -/
def rSetOf (K : PySem.W.Frag) (w : World) : List V → Hp → VK → Prop := fun xs H Q => ∃ (l : Addr) (ns : List Int), xs = [V.ref l] ∧ SqT K H l (ns.map V.int) ∧ ns.length ≤ 1000 ∧
  ∀ p c, H p = none → c ≤ ns.length → (∀ L : List Int, (∀ k ∈ ns, k ∈ L) → c ≤ L.length) → Q (.ref p) (upd H p (SetO w p (fun j => decide (j ∈ ns)) c))
theorem nodup_le : ∀ (l D : List Int), l.Nodup → (∀ x ∈ l, x ∈ D) → l.length ≤ D.length
  | [], _, _, _ => Nat.zero_le _
  | x :: r, D, hn, h => by
    have hx : x ∈ D := h x List.mem_cons_self
    obtain ⟨h1, h2⟩ := List.nodup_cons.mp hn
    have ih := nodup_le r (D.erase x) h2 fun y hy => by
      have hne : y ≠ x := fun e => h1 (e ▸ hy)
      exact (List.mem_erase_of_ne hne).mpr (h y (List.mem_cons_of_mem _ hy))
    rw [List.length_erase_of_mem hx] at ih
    have : 0 < D.length := List.length_pos_of_mem hx
    rw [List.length_cons]
    omega
theorem cr_setOf (hc : X.calm = true) : CallR X (.type "set") (rSetOf X.K X.w) := by
  intro pins s σ H xs us Q I r h
  obtain ⟨l, ns, rfl, hq, hl, q⟩ := h
  rw [Vals.ref1 r]
  obtain ⟨its, rv, pt, hz⟩ := I.tuple hq
  have hi : IntsAre its.toArray.toList ns := by simpa using ints_of_vals rv
  refine call_set_tupI ns (I.ok.hd hc) (show s.heap.IsTuple l its.toArray from pt) hi (by unfold scanBound; omega) fun h' tk c R hcn k => ?_
  have hn : H s.heap.objs.size = none := I.hok.fresh (Nat.le_refl _)
  refine ⟨.ref s.heap.objs.size, upd H s.heap.objs.size (SetO X.w s.heap.objs.size (fun j => decide (j ∈ ns)) c), I.laid (t' := tk) k (Nat.le_refl _) (setO_new R), rfl, q _ c hn hcn fun L hL => ?_⟩
  obtain ⟨o, es, ep, t, ho, hex, hdt, g, nd, hm2, hb, hf, hn2, hr, hl2⟩ := R
  have z := nodup_le _ L nd fun x hx => hL x (of_decide_eq_true ((hm2 x).mpr hx))
  rw [List.length_map, Array.length_toList, hn2] at z
  exact z
end
end L2

namespace L2
open PySem PySem.Spec PyProof.Rows
/-! ## heaps that keep all but the pool -/
def isPool (o : HO) : Prop := ∃ (a : Addr) (c i b s : Int), o = .lst [.ref a, .int c, .int i, .int b, .int s]
def Gd (H H' : Hp) : Prop := (∀ b o, ¬ isPool o → H b = some o → H' b = some o) ∧ ∀ b o, isPool o → H b = some o → ∃ o', isPool o' ∧ H' b = some o'
theorem Gd.refl (H : Hp) : Gd H H := ⟨fun _ _ _ h => h, fun _ o n h => ⟨o, n, h⟩⟩
theorem Gd.trans {H H1 H2 : Hp} (a : Gd H H1) (b : Gd H1 H2) : Gd H H2 := ⟨fun x o n h => b.1 x o n (a.1 x o n h), fun x o n h => let ⟨o', n', h'⟩ := a.2 x o n h; b.2 x o' n' h'⟩
theorem Same.gd {H H' : Hp} (h : Same H H') : Gd H H' := ⟨fun b o _ e => h b o e, fun b o n e => ⟨o, n, h b o e⟩⟩
theorem fresh_gd {H H' : Hp} {p : Addr} (e : Gd H H') (h : H' p = none) : H p = none := by
  cases q : H p with
  | none => rfl
  | some o =>
    exfalso
    by_cases n : isPool o
    · obtain ⟨o', _, h'⟩ := e.2 p o n q
      rw [h] at h'
      cases h'
    · have := e.1 p o n q
      rw [h] at this
      cases this
theorem np_ints (ns : List Int) : ¬ isPool (.lst (ns.map V.int)) := by
  rintro ⟨a, c, i, b, s, h⟩
  cases ns with
  | nil => cases h
  | cons x r => injection h with h; injection h with h _; cases h
theorem np_frz (o : Obj) (u : HO) : ¬ isPool (.frz o u) := by rintro ⟨a, c, i, b, s, h⟩; cases h
theorem np_tup (xs : List V) : ¬ isPool (.tup xs) := by rintro ⟨a, c, i, b, s, h⟩; cases h
theorem np_ins (C dx : Addr) (fs : List (Str × V)) : ¬ isPool (.ins C dx fs) := by rintro ⟨a, c, i, b, s, h⟩; cases h
theorem Gd.seq {K : PySem.W.Frag} {H H' : Hp} {a : Addr} {ns : List Int} (e : Gd H H') (h : SqL K H a (ns.map V.int)) : SqL K H' a (ns.map V.int) := by
  rcases h with (h | ⟨o, h⟩) | h
  · exact .inl (.inl (e.1 _ _ (np_ints ns) h))
  · exact .inl (.inr ⟨o, e.1 _ _ (np_frz _ _) h⟩)
  · exact .inr h
theorem Same.seqT {K : PySem.W.Frag} {H H' : Hp} {a : Addr} {xs : List V} (e : Same H H') (h : SqT K H a xs) : SqT K H' a xs := by
  rcases h with (h | ⟨o, h⟩) | h
  · exact .inl (.inl (e _ _ h))
  · exact .inl (.inr ⟨o, e _ _ h⟩)
  · exact .inr h
theorem same_upd {H : Hp} {p : Addr} {o : HO} (h : H p = none) : Same H (upd H p o) := fun b x e => by
  rw [upd_ne (ne_of_none e h)]
  exact e
/-- a heap made from H' by changing p, which H did not know -/
theorem Same.mut {H H' : Hp} {p : Addr} {o : HO} (e : Same H H') (h : H p = none) : Same H (upd H' p o) := fun a u ha => by
  rw [upd_ne (ne_of_none ha h)]
  exact e a u ha
theorem Gd.mut {H H' : Hp} {p : Addr} {o : HO} (e : Gd H H') (h : H p = none) : Gd H (upd H' p o) := ⟨fun a u n ha => by
  rw [upd_ne (ne_of_none ha h)]
  exact e.1 a u n ha, fun a u n ha => by
  rw [upd_ne (ne_of_none ha h)]
  exact e.2 a u n ha⟩
theorem Gd.upd {H H' : Hp} {p : Addr} {o : HO} (e : Gd H H') (h : H' p = none) : Gd H (upd H' p o) := e.mut (fresh_gd e h)
/-- the script: known to the object, or of the written part -/
def ScrAt (K : PySem.W.Frag) (H : Hp) (a : Addr) (xs : List V) : Prop :=
  (∃ o, H a = some (.frz o (.lst xs))) ∨ ∃ (o : Obj) (its : Array Value) (n : Nat), K.lookup a = some o ∧ o.cls = .type "list" ∧ o.dict = none ∧ o.data = .seq its n ∧ its.size ≤ sizeLine ∧ Vals xs its.toList
theorem ScrAt.seq {K : PySem.W.Frag} {H : Hp} {a : Addr} {xs : List V} (h : ScrAt K H a xs) : SqL K H a xs := h.elim (fun ⟨o, h⟩ => .inl (.inr ⟨o, h⟩)) fun h => .inr h
theorem ScrAt.gd {K : PySem.W.Frag} {H H' : Hp} {a : Addr} {xs : List V} (e : Gd H H') (h : ScrAt K H a xs) : ScrAt K H' a xs := h.elim (fun ⟨o, h⟩ => .inl ⟨o, e.1 _ _ (np_frz _ _) h⟩) fun h => .inr h
theorem ScrAt.mut {K : PySem.W.Frag} {H : Hp} {a D : Addr} {xs ys : List V} {o : HO} (hD : H D = some (.lst ys)) (h : ScrAt K H a xs) : ScrAt K (upd H D o) a xs :=
  h.elim (fun ⟨u, h⟩ => .inl ⟨u, by rw [upd_ne (ne_of h hD (by intro z; cases z))]; exact h⟩) fun h => .inr h
theorem scr_of {K : PySem.W.Frag} {H : Hp} {a : Addr} {xs : List V} (hO : Only H) (h : SqL K H a xs) : ScrAt K H a xs := by
  rcases h with (h | ⟨o, h⟩) | h
  · rcases hO a with z | ⟨o, ys, z⟩
    · rw [h] at z; cases z
    · rw [h] at z; cases z
  · exact .inl ⟨o, h⟩
  · exact .inr h
/-- the pool at p has drawn at most c times -/
def PoolOk (K : PySem.W.Frag) (p : Addr) (c : Nat) (H : Hp) : Prop := ∃ (sa : Addr) (ns : List Int) (c' i b s : Int), ScrAt K H sa (ns.map V.int) ∧ H p = some (.lst [.ref sa, .int c', .int i, .int b, .int s]) ∧ 0 ≤ c' ∧ c' ≤ (c : Int) ∧ 0 ≤ i ∧ i ≤ (ns.length : Int) ∧ 0 ≤ b ∧ 0 ≤ s ∧ s < 2147483629
theorem PoolOk.same {K : PySem.W.Frag} {p : Addr} {c : Nat} {H H' : Hp} (h : PoolOk K p c H) (e : Same H H') : PoolOk K p c H' := by
  obtain ⟨sa, ns, c', i, b, s, h1, h2, h3⟩ := h
  exact ⟨sa, ns, c', i, b, s, h1.gd e.gd, e _ _ h2, h3⟩
theorem PoolOk.mono {K : PySem.W.Frag} {p : Addr} {c d : Nat} {H : Hp} (h : PoolOk K p c H) (e : c ≤ d) : PoolOk K p d H := by
  obtain ⟨sa, ns, c', i, b, s, h1, h2, h3, h4, h5⟩ := h
  exact ⟨sa, ns, c', i, b, s, h1, h2, h3, by omega, h5⟩
/-- the pool is known, so a new address is another one -/
theorem PoolOk.ne {K : PySem.W.Frag} {p q : Addr} {c : Nat} {H : Hp} (h : PoolOk K p c H) (e : H q = none) : p ≠ q := by
  obtain ⟨sa, ns, c', i, b, s, h1, h2, h3⟩ := h
  exact ne_of_none h2 e
theorem PoolOk.upd {K : PySem.W.Frag} {p q : Addr} {c : Nat} {H : Hp} {o : HO} (h : PoolOk K p c H) (e : H q = none) : PoolOk K p c (upd H q o) := h.same (same_upd e)
/-- a list that stands (not the pool's) is changed: the pool stays -/
theorem PoolOk.mut {K : PySem.W.Frag} {p D : Addr} {c : Nat} {H : Hp} {ys : List V} {o : HO} (h : PoolOk K p c H) (hD : H D = some (.lst ys)) (n : ¬ isPool (.lst ys)) : PoolOk K p c (L2.upd H D o) := by
  obtain ⟨sa, ns, c', i, b, s, h1, h2, h3⟩ := h
  refine ⟨sa, ns, c', i, b, s, h1.mut hD, ?_, h3⟩
  rw [upd_ne (fun e => by
    subst e
    rw [h2] at hD
    injection hD with hD
    exact n ⟨sa, c', i, b, s, hD.symm⟩)]
  exact h2
theorem tyes {σ : St} {H : Hp} {A B : Hp → Prop} (h : A H) : tYes σ H fun b H3 => if b = true then A H3 else B H3 := by
  unfold tYes
  dsimp only
  rw [if_pos rfl]
  exact h
def pl (sa : Addr) (c i b s : Int) : HO := .lst [.ref sa, .int c, .int i, .int b, .int s]
theorem pl_pool (sa : Addr) (c i b s : Int) : isPool (pl sa c i b s) := ⟨sa, c, i, b, s, rfl⟩
theorem gd_pool {H : Hp} {p sa sa' : Addr} {c i b s c' i' b' s' : Int} (h : H p = some (pl sa c i b s)) : Gd H (upd H p (pl sa' c' i' b' s')) := ⟨fun x u n e => by
  have hx : x ≠ p := fun z => by
    subst z
    rw [h] at e
    injection e with e
    exact n ⟨sa, c, i, b, s, e.symm⟩
  rw [upd_ne hx]
  exact e, fun x u n e => by
  by_cases hx : x = p
  · subst hx
    exact ⟨_, pl_pool _ _ _ _ _, upd_same⟩
  · exact ⟨u, n, by rw [upd_ne hx]; exact e⟩⟩
def LIM : Nat := 1099511627776
def spDraw (K : PySem.W.Frag) : Sp := fun vs H Q _ => ∃ (p : Addr) (c : Nat) (lim : Int), vs = [.ref p, .int lim] ∧ PoolOk K p c H ∧ c < LIM ∧ 0 < lim ∧ lim < 2 ^ 200 ∧
  ∀ H' r, Gd H H' → PoolOk K p (c + 1) H' → 0 ≤ r → r < lim → Q (.int r) H'
def spPool (K : PySem.W.Frag) : Sp := fun vs H Q _ => ∃ (x : Addr) (ns : List Int), vs = [.ref x] ∧ ScrAt K H x (ns.map V.int) ∧ ∀ p H', H p = none → Same H H' → PoolOk K p 0 H' → Q (.ref p) H'
theorem atI0 {α : Type} {x : α} {r : List α} : atI (x :: r) 0 = some x := atI_nat (j := 0) rfl
theorem atI1 {α : Type} {x y : α} {r : List α} : atI (x :: y :: r) 1 = some y := atI_nat (j := 1) rfl
theorem atI2 {α : Type} {x y z : α} {r : List α} : atI (x :: y :: z :: r) 2 = some z := atI_nat (j := 2) rfl
theorem atI3 {α : Type} {x y z u : α} {r : List α} : atI (x :: y :: z :: u :: r) 3 = some u := atI_nat (j := 3) rfl
theorem atI4 {α : Type} {x y z u v : α} {r : List α} : atI (x :: y :: z :: u :: v :: r) 4 = some v := atI_nat (j := 4) rfl
/-! ## sets of questions by their ascending lists -/
def ask48 : List Int := (List.range 48).map fun i => ((i : Nat) : Int)
def norm (l : List Int) : List Int := ask48.filter fun x => decide (x ∈ l)
theorem mem_ask {x : Int} : x ∈ ask48 ↔ 0 ≤ x ∧ x < 48 := by
  unfold ask48
  rw [List.mem_map]
  constructor
  · rintro ⟨i, h, rfl⟩
    have := List.mem_range.mp h
    omega
  · rintro ⟨h0, h1⟩
    exact ⟨x.toNat, List.mem_range.mpr (by omega), by omega⟩
theorem mem_norm {l : List Int} {x : Int} : x ∈ norm l ↔ (0 ≤ x ∧ x < 48) ∧ x ∈ l := by
  unfold norm
  rw [List.mem_filter, mem_ask, decide_eq_true_eq]
theorem ask_sorted : ask48.Pairwise (· < ·) := by
  unfold ask48
  rw [List.pairwise_map]
  exact List.Pairwise.imp (fun h => by omega) List.pairwise_lt_range
theorem norm_sorted (l : List Int) : (norm l).Pairwise (· < ·) := ask_sorted.sublist List.filter_sublist
theorem norm_len (l : List Int) : (norm l).length ≤ 48 := by
  refine Nat.le_trans (List.length_filter_le _ _) ?_
  unfold ask48
  rw [List.length_map, List.length_range]
  exact Nat.le_refl _
theorem sorted_ext : ∀ {l l' : List Int}, l.Pairwise (· < ·) → l'.Pairwise (· < ·) → (∀ x, x ∈ l ↔ x ∈ l') → l = l'
  | [], [], _, _, _ => rfl
  | [], b :: r, _, _, h => absurd ((h b).mpr List.mem_cons_self) (by simp)
  | a :: r, [], _, _, h => absurd ((h a).mp List.mem_cons_self) (by simp)
  | a :: r, b :: s, h1, h2, h => by
    obtain ⟨ha, hr⟩ := List.pairwise_cons.mp h1
    obtain ⟨hb, hs⟩ := List.pairwise_cons.mp h2
    have e : a = b := by
      rcases List.mem_cons.mp ((h a).mp List.mem_cons_self) with e | e
      · exact e
      · rcases List.mem_cons.mp ((h b).mpr List.mem_cons_self) with e2 | e2
        · exact e2.symm
        · have := hb a e
          have := ha b e2
          omega
    subst e
    have : r = s := sorted_ext hr hs fun x => by
      constructor
      · intro hx
        rcases List.mem_cons.mp ((h x).mp (List.mem_cons_of_mem _ hx)) with e | e
        · have := ha x hx
          omega
        · exact e
      · intro hx
        rcases List.mem_cons.mp ((h x).mpr (List.mem_cons_of_mem _ hx)) with e | e
        · have := hb x hx
          omega
        · exact e
    rw [this]
theorem norm_ext {l l' : List Int} (h : ∀ x, 0 ≤ x → x < 48 → (x ∈ l ↔ x ∈ l')) : norm l = norm l' :=
  sorted_ext (norm_sorted l) (norm_sorted l') fun x => by
    rw [mem_norm, mem_norm]
    constructor
    · rintro ⟨a, b⟩; exact ⟨a, (h x a.1 a.2).mp b⟩
    · rintro ⟨a, b⟩; exact ⟨a, (h x a.1 a.2).mpr b⟩
theorem norm_of_sorted {l l' : List Int} (h : l.Pairwise (· < ·)) (hm : ∀ x, x ∈ l ↔ x ∈ l') (hr : ∀ x ∈ l', 0 ≤ x ∧ x < 48) : l = norm l' :=
  sorted_ext h (norm_sorted l') fun x => by
    rw [hm, mem_norm]
    exact ⟨fun a => ⟨hr x a, a⟩, fun a => a.2⟩
theorem norm_eq_iff {l l' : List Int} : norm l = norm l' ↔ ∀ x, 0 ≤ x → x < 48 → (x ∈ l ↔ x ∈ l') := by
  constructor
  · intro e x h0 h1
    have : x ∈ norm l ↔ x ∈ norm l' := by rw [e]
    rw [mem_norm, mem_norm] at this
    exact ⟨fun a => (this.mp ⟨⟨h0, h1⟩, a⟩).2, fun a => (this.mpr ⟨⟨h0, h1⟩, a⟩).2⟩
  · exact norm_ext
theorem norm_filter (l : List Int) (p : Int → Bool) : (norm l).filter p = norm (l.filter p) := by
  refine sorted_ext ((norm_sorted l).sublist List.filter_sublist) (norm_sorted _) fun x => ?_
  rw [List.mem_filter, mem_norm, mem_norm, List.mem_filter]
  constructor
  · rintro ⟨⟨a, b⟩, c⟩; exact ⟨a, b, c⟩
  · rintro ⟨a, b, c⟩; exact ⟨⟨a, b⟩, c⟩
theorem norm_norm (l : List Int) : norm (norm l) = norm l := norm_ext fun x h0 h1 => by
  rw [mem_norm]
  exact ⟨fun a => a.2, fun a => ⟨⟨h0, h1⟩, a⟩⟩
/-! ## values -/
theorem flat_ints (ns : List Int) : (ns.map V.int).all flatV = true := by
  rw [List.all_eq_true]
  intro x hx
  obtain ⟨i, _, rfl⟩ := List.mem_map.mp hx
  rfl
theorem eqV_int (i j : Int) : eqV (.int i) (.int j) = decide (i = j) := by
  show (i == j) = _
  rw [Bool.eq_iff_iff]
  simp
theorem in_ints (x : Int) (ns : List Int) : inV (.int x) (ns.map V.int) = decide (x ∈ ns) := by
  unfold inV
  rw [Bool.eq_iff_iff, List.any_eq_true, decide_eq_true_eq]
  constructor
  · rintro ⟨y, hy, e⟩
    obtain ⟨i, hi, rfl⟩ := List.mem_map.mp hy
    rw [eqV_int, decide_eq_true_eq] at e
    exact e ▸ hi
  · intro h
    exact ⟨.int x, List.mem_map.mpr ⟨x, h, rfl⟩, by rw [eqV_int, decide_eq_true_eq]⟩
theorem dpAll_ints {K : PySem.W.Frag} {H : Hp} : ∀ ns : List Int, DpAll K H (ns.map V.int) (ns.map PyData.int)
  | [] => .nil
  | n :: r => .cons (.int n) (dpAll_ints r)
theorem canLay_ints : ∀ ns : List Int, PyData.canLayAll0 (ns.map PyData.int) = true
  | [] => by rw [List.map_nil, PyData.canLayAll0]
  | n :: r => by
    rw [List.map_cons, PyData.canLayAll0, canLay_ints r]
    rfl
theorem depth_ints : ∀ ns : List Int, PyData.depthAll (ns.map PyData.int) = 0
  | [] => by rw [List.map_nil, PyData.depthAll]
  | n :: r => by
    rw [List.map_cons, PyData.depthAll, depth_ints r]
    rfl
theorem shT (ns : List Int) : SeqAt.shaped (.tuple (ns.map PyData.int)) = true := by
  simp [SeqAt.shaped, PyData.canLay0, canLay_ints, PyData.depth, depth_ints]
theorem shL (ns : List Int) : SeqAt.shaped (.list (ns.map PyData.int)) = true := by
  simp [SeqAt.shaped, PyData.canLay0, canLay_ints, PyData.depth, depth_ints]
theorem evT (ns ms : List Int) : PyData.eqv (.tuple (ns.map PyData.int)) (.tuple (ms.map PyData.int)) = decide (ns = ms) := by
  rw [PyData.eqv, PySem.W.ked_eqvAll]
theorem evL (ns ms : List Int) : PyData.eqv (.list (ns.map PyData.int)) (.list (ms.map PyData.int)) = decide (ns = ms) := by
  rw [PyData.eqv, PySem.W.ked_eqvAll]
theorem eqD_tup {K : PySem.W.Frag} {H : Hp} {a b : Addr} {ns ms : List Int} {Q : VK} (h1 : SqT K H a (ns.map V.int)) (h2 : SqT K H b (ms.map V.int)) (q : Q (.bl (decide (ns = ms))) H) : rEqD K (.ref a) (.ref b) H Q :=
  ⟨_, _, .tup h1 (dpAll_ints ns), .tup h2 (dpAll_ints ms), shT ns, shT ms, by rw [evT]; exact q⟩
theorem neD_tup {K : PySem.W.Frag} {H : Hp} {a b : Addr} {ns ms : List Int} {Q : VK} (h1 : SqT K H a (ns.map V.int)) (h2 : SqT K H b (ms.map V.int)) (q : Q (.bl (!decide (ns = ms))) H) : rNeD K (.ref a) (.ref b) H Q :=
  ⟨_, _, .tup h1 (dpAll_ints ns), .tup h2 (dpAll_ints ms), shT ns, shT ms, by rw [evT]; exact q⟩
theorem eqD_lst {K : PySem.W.Frag} {H : Hp} {a b : Addr} {ns ms : List Int} {Q : VK} (h1 : SqL K H a (ns.map V.int)) (h2 : SqL K H b (ms.map V.int)) (q : Q (.bl (decide (ns = ms))) H) : rEqD K (.ref a) (.ref b) H Q :=
  ⟨_, _, .lst h1 (dpAll_ints ns), .lst h2 (dpAll_ints ms), shL ns, shL ms, by rw [evL]; exact q⟩
theorem neD_lst {K : PySem.W.Frag} {H : Hp} {a b : Addr} {ns ms : List Int} {Q : VK} (h1 : SqL K H a (ns.map V.int)) (h2 : SqL K H b (ms.map V.int)) (q : Q (.bl (!decide (ns = ms))) H) : rNeD K (.ref a) (.ref b) H Q :=
  ⟨_, _, .lst h1 (dpAll_ints ns), .lst h2 (dpAll_ints ms), shL ns, shL ms, by rw [evL]; exact q⟩
/-! ## pupils -/
/-- at a a pupil whose rights are the ascending list of l -/
def PupAt (C : Addr) (H : Hp) (a : Addr) (l : List Int) : Prop := ∃ dx t, H a = some (.ins C dx [("rights", .ref t)]) ∧ H t = some (.tup ((norm l).map V.int))
theorem PupAt.same {C a : Addr} {H H' : Hp} {l : List Int} (e : Same H H') (h : PupAt C H a l) : PupAt C H' a l := by
  obtain ⟨dx, t, h1, h2⟩ := h
  exact ⟨dx, t, e _ _ h1, e _ _ h2⟩
theorem PupAt.gd {C a : Addr} {H H' : Hp} {l : List Int} (e : Gd H H') (h : PupAt C H a l) : PupAt C H' a l := by
  obtain ⟨dx, t, h1, h2⟩ := h
  exact ⟨dx, t, e.1 _ _ (np_ins _ _ _) h1, e.1 _ _ (np_tup _) h2⟩
theorem PupAt.eq {C a : Addr} {H : Hp} {l l' : List Int} (h : PupAt C H a l) (e : norm l = norm l') : PupAt C H a l' := by
  obtain ⟨dx, t, h1, h2⟩ := h
  exact ⟨dx, t, h1, by rw [← e]; exact h2⟩
/-- questions: each from 0 to 47 -/
def Qn (l : List Int) : Prop := ∀ k ∈ l, 0 ≤ k ∧ k < 48
def SqA (K : PySem.W.Frag) (H : Hp) (q : Addr) (xs : List V) : Prop := SqL K H q xs ∨ SqT K H q xs
def spInit (K : PySem.W.Frag) (C : Addr) : Sp := fun vs H Q _ => ∃ (x dx q : Addr) (l : List Int), vs = [.ref x, .ref q] ∧ H x = some (.ins C dx []) ∧ SqA K H q (l.map V.int) ∧ l.length ≤ 500 ∧ Qn l ∧
  ∀ H' t, H' x = some (.ins C dx [("rights", .ref t)]) → H' t = some (.tup ((norm l).map V.int)) → (∀ b o, b ≠ x → H b = some o → H' b = some o) → Q .non H'
theorem SqA.same {K : PySem.W.Frag} {H H' : Hp} {q : Addr} {xs : List V} (e : Same H H') (h : SqA K H q xs) : SqA K H' q xs := h.elim (fun h => .inl (e.seq h)) fun h => .inr (e.seqT h)
theorem pup_make {K : PySem.W.Frag} {C q : Addr} {H : Hp} {l : List Int} {R : Addr → Hp → Prop} {E : XK} (hq : SqA K H q (l.map V.int)) (hl : l.length ≤ 500) (hn : Qn l) (k : ∀ x H', H x = none → Same H H' → PupAt C H' x l → R x H') :
    ∀ x dx, H x = none → H dx = none → dx ≠ x → spInit K C (.ref x :: ([.ref q] ++ [])) (upd (upd H dx (.own x)) x (.ins C dx [])) (fun v H2 => v = .non ∧ R x H2) E := by
  intro x dx nx ndx ne
  have s0 : Same H (upd (upd H dx (.own x)) x (.ins C dx [])) := (same_upd ndx).mut nx
  refine ⟨x, dx, q, l, rfl, upd_same, hq.same s0, hl, hn, fun H' t h1 h2 h3 => ⟨rfl, k x H' nx (fun b o e => ?_) ⟨dx, t, h1, h2⟩⟩⟩
  exact h3 b o (ne_of_none e nx) (s0 b o e)
def spBin (C : Addr) (f : List Int → List Int → List Int) : Sp := fun vs H Q _ => ∃ (a b : Addr) (p q : List Int), vs = [.ref a, .ref b] ∧ PupAt C H a p ∧ PupAt C H b q ∧ ∀ x H', H x = none → Same H H' → PupAt C H' x (f p q) → Q (.ref x) H'
def spRel (C : Addr) (f : List Int → List Int → Bool) : Sp := fun vs H Q _ => ∃ (a b : Addr) (p q : List Int), vs = [.ref a, .ref b] ∧ PupAt C H a p ∧ PupAt C H b q ∧ ∀ H', Same H H' → Q (.bl (f (norm p) (norm q))) H'
def fOr (p q : List Int) : List Int := p ++ q
def fAnd (p q : List Int) : List Int := p.filter fun x => decide (x ∈ q)
def fSub (p q : List Int) : List Int := p.filter fun x => !decide (x ∈ q)
def fLe (p q : List Int) : Bool := p.all fun x => decide (x ∈ q)
def fEq (p q : List Int) : Bool := decide (p = q)
theorem norm_or (p q : List Int) : norm (norm p ++ norm q) = norm (p ++ q) := norm_ext fun x h0 h1 => by
  simp only [List.mem_append, mem_norm]
  exact ⟨fun h => h.elim (fun a => .inl a.2) fun a => .inr a.2, fun h => h.elim (fun a => .inl ⟨⟨h0, h1⟩, a⟩) fun a => .inr ⟨⟨h0, h1⟩, a⟩⟩
theorem qn_norm (l : List Int) : Qn (norm l) := fun k hk => (mem_norm.mp hk).1
theorem qn_append {l m : List Int} (h1 : Qn l) (h2 : Qn m) : Qn (l ++ m) := fun k hk => (List.mem_append.mp hk).elim (h1 k) (h2 k)
theorem qn_filter {l : List Int} {p : Int → Bool} (h1 : Qn l) : Qn (l.filter p) := fun k hk => h1 k (List.mem_filter.mp hk).1
/-- a comprehension over a list that keeps some of its ints as they are -/
theorem filter_take_succ {l : List Int} {p : Int → Bool} {i : Nat} {x : Int} (h : l[i]? = some x) : (l.take (i + 1)).filter p = (l.take i).filter p ++ (if p x = true then [x] else []) := by
  rw [List.take_add_one, h, List.filter_append]
  show _ ++ List.filter p [x] = _
  rw [List.filter_cons]
  rfl
theorem get_map_int {l : List Int} {i : Nat} {v : V} (h : (l.map V.int)[i]? = some v) : ∃ x, l[i]? = some x ∧ v = .int x := by
  rw [List.getElem?_map] at h
  cases e : l[i]? with
  | none => rw [e] at h; cases h
  | some x => rw [e] at h; exact ⟨x, rfl, (Option.some.inj h).symm⟩
theorem catA_k {K : PySem.W.Frag} {H : Hp} {a b : Addr} {xs ys : List V} {Q : VK} (h1 : SqT K H a xs) (h2 : SqT K H b ys) (hl : xs.length + ys.length ≤ sizeLine) (k : ∀ p H', Same H H' → SqT K H' p (xs ++ ys) → Q (.ref p) H') : rCatA K (.ref a) (.ref b) H Q := by
  refine ⟨a, b, xs, ys, rfl, rfl, h1, h2, hl, fun e => ?_, fun _ e => ?_, fun _ _ p hp => k p _ (same_upd hp) (.inl (.inl upd_same))⟩
  · subst e
    exact k b H (Same.refl H) h2
  · subst e
    exact k a H (Same.refl H) (by rw [List.append_nil]; exact h1)
section
variable {K : PySem.W.Frag} {a : Addr} {tt : TT} {te : TE} {vs : List Nat} {σ : St} {H1 : Hp} {D : Addr} {Qd : Hp → Prop} {j : Nat}
/-- one turn of a comprehension that keeps some ints as they are -/
theorem filt_turn {ns : List Int} {p : Int → Bool} {i : Nat} {x : Int} {H : Hp} (nD : H1 D = none) (hlen : ns.length < 100000) (hx : ns[i]? = some x)
    (ht : ∀ H', Same H1 H' → ∀ R : Bool → Hp → Prop, R (p x) H' → tt ((wipe σ vs).set j (some (.int x))) H' R) (he : ∀ H', Same H1 H' → ∀ R : VK, R (.int x) H' → te ((wipe σ vs).set j (some (.int x))) H' R)
    (h : Same H1 H ∧ H D = some (.lst (((ns.take i).filter p).map V.int))) :
    tt ((wipe σ vs).set j (some (.int x))) H fun b H3 => if b = true then te ((wipe σ vs).set j (some (.int x))) H3 fun y H4 => ∃ acc, H4 D = some (.lst acc) ∧ acc.length < sizeLine ∧ (Same H1 (upd H4 D (.lst (acc ++ [y]))) ∧ upd H4 D (.lst (acc ++ [y])) D = some (.lst (((ns.take (i + 1)).filter p).map V.int)))
      else (Same H1 H3 ∧ H3 D = some (.lst (((ns.take (i + 1)).filter p).map V.int))) := by
  obtain ⟨e, hD⟩ := h
  refine ht H e _ ?_
  have ef := filter_take_succ (p := p) hx
  cases hp : p x with
  | true =>
    rw [hp] at ef
    refine iteT (he H e _ ⟨_, hD, ?_, e.mut nD, ?_⟩)
    · rw [List.length_map]
      have h1 := List.length_filter_le p (ns.take i)
      have h2 := List.length_take_le i ns
      have h3 : (ns.take i).length ≤ ns.length := by rw [List.length_take]; exact Nat.min_le_right _ _
      rw [sizeLine_eq]; omega
    · rw [upd_same, ef, List.map_append]
      rfl
  | false =>
    rw [hp] at ef
    refine iteF ⟨e, ?_⟩
    rw [ef, if_neg (by decide), List.append_nil]
    exact hD
def lcT_filter {ns : List Int} (p : Int → Bool) (hs : SqT K H1 a (ns.map V.int)) (nD : H1 D = none) (hlen : ns.length < 100000) (hw : ∀ x, wipe ((wipe σ vs).set j (some x)) vs = wipe σ vs)
    (ht : ∀ x ∈ ns, ∀ H', Same H1 H' → ∀ R : Bool → Hp → Prop, R (p x) H' → tt ((wipe σ vs).set j (some (.int x))) H' R) (he : ∀ x ∈ ns, ∀ H', Same H1 H' → ∀ R : VK, R (.int x) H' → te ((wipe σ vs).set j (some (.int x))) H' R)
    (k : ∀ H', Same H1 H' → H' D = some (.lst ((ns.filter p).map V.int)) → Qd H') := 
  lc_tup (K := K) (a := a) (xs := ns.map V.int) (g := gName j) (tt := tt) (te := te) (vs := vs) (σ := σ) (H1 := H1) (D := D) (Qd := Qd) (fun i H => Same H1 H ∧ H D = some (.lst (((ns.take i).filter p).map V.int))) ⟨same_upd nD, upd_same⟩ (fun i H _ h => h.1.seqT hs)
    (fun i y H hi h => by
      obtain ⟨x, hx, rfl⟩ := get_map_int hi
      have hm := List.mem_of_getElem? hx
      exact ⟨hw _, filt_turn nD hlen hx (ht x hm) (he x hm) h⟩)
    (fun H h => k H h.1 (by have := h.2; rw [List.length_map, List.take_length] at this; exact this))
def lcL_filter {ns : List Int} (p : Int → Bool) (hs : SqL K H1 a (ns.map V.int)) (nD : H1 D = none) (hlen : ns.length < 100000) (hw : ∀ x, wipe ((wipe σ vs).set j (some x)) vs = wipe σ vs)
    (ht : ∀ x ∈ ns, ∀ H', Same H1 H' → ∀ R : Bool → Hp → Prop, R (p x) H' → tt ((wipe σ vs).set j (some (.int x))) H' R) (he : ∀ x ∈ ns, ∀ H', Same H1 H' → ∀ R : VK, R (.int x) H' → te ((wipe σ vs).set j (some (.int x))) H' R)
    (k : ∀ H', Same H1 H' → H' D = some (.lst ((ns.filter p).map V.int)) → Qd H') := 
  lc_list (K := K) (a := a) (xs := ns.map V.int) (g := gName j) (tt := tt) (te := te) (vs := vs) (σ := σ) (H1 := H1) (D := D) (Qd := Qd) (fun i H => Same H1 H ∧ H D = some (.lst (((ns.take i).filter p).map V.int))) ⟨same_upd nD, upd_same⟩ (fun i H _ h => h.1.seq hs)
    (fun i y H hi h => by
      obtain ⟨x, hx, rfl⟩ := get_map_int hi
      have hm := List.mem_of_getElem? hx
      exact ⟨hw _, filt_turn nD hlen hx (ht x hm) (he x hm) h⟩)
    (fun H h => k H h.1 (by have := h.2; rw [List.length_map, List.take_length] at this; exact this))
def rgI (n : Nat) : List Int := (List.range n).map fun i => ((i : Nat) : Int)
theorem rgI_get {n i : Nat} (h : i < n) : (rgI n)[i]? = some (i : Int) := by
  unfold rgI
  rw [List.getElem?_map, List.getElem?_range h]
  rfl
theorem rgI_length (n : Nat) : (rgI n).length = n := by unfold rgI; rw [List.length_map, List.length_range]
theorem mem_rgI {n : Nat} {x : Int} : x ∈ rgI n ↔ 0 ≤ x ∧ x < n := by
  unfold rgI
  rw [List.mem_map]
  constructor
  · rintro ⟨i, h, rfl⟩
    have := List.mem_range.mp h
    omega
  · rintro ⟨h0, h1⟩
    exact ⟨x.toNat, List.mem_range.mpr (by omega), by omega⟩
def lcR_filter {n : Nat} (p : Int → Bool) (nD : H1 D = none) (hlen : n < 100000) (hw : ∀ x, wipe ((wipe σ vs).set j (some x)) vs = wipe σ vs)
    (ht : ∀ x ∈ rgI n, ∀ H', Same H1 H' → ∀ R : Bool → Hp → Prop, R (p x) H' → tt ((wipe σ vs).set j (some (.int x))) H' R) (he : ∀ x ∈ rgI n, ∀ H', Same H1 H' → ∀ R : VK, R (.int x) H' → te ((wipe σ vs).set j (some (.int x))) H' R)
    (k : ∀ H', Same H1 H' → H' D = some (.lst (((rgI n).filter p).map V.int)) → Qd H') := 
  lc_range (lo := 0) (n := n) (g := gName j) (tt := tt) (te := te) (vs := vs) (σ := σ) (H1 := H1) (D := D) (Qd := Qd) (fun i H => Same H1 H ∧ H D = some (.lst ((((rgI n).take i).filter p).map V.int))) ⟨same_upd nD, upd_same⟩
    (fun i H hi h => by
      have hx := rgI_get hi
      have hm := List.mem_of_getElem? hx
      have e0 : (0 : Int) + ((i : Nat) : Int) = (i : Int) := Int.zero_add _
      rw [e0]
      exact ⟨hw _, filt_turn nD (by rw [rgI_length]; exact hlen) hx (ht _ hm) (he _ hm) h⟩)
    (fun H h => k H h.1 (by have := h.2; rw [List.take_of_length_le (by rw [rgI_length]; exact Nat.le_refl n)] at this; exact this))
theorem in_k {K : PySem.W.Frag} {neg : Bool} {x : Int} {q : Addr} {ns : List Int} {H : Hp} {Q : VK} (h : SqL K H q (ns.map V.int) ∨ SqT K H q (ns.map V.int)) (k : Q (.bl (if neg then !decide (x ∈ ns) else decide (x ∈ ns))) H) : rIn K neg (.int x) (.ref q) H Q :=
  ⟨q, _, rfl, h, rfl, flat_ints ns, by rw [in_ints]; exact k⟩
theorem tup_of {K : PySem.W.Frag} {H : Hp} {q : Addr} {xs : List V} (h : H q = some (.tup xs)) : SqT K H q xs := .inl (.inl h)
theorem lst_of {K : PySem.W.Frag} {H : Hp} {q : Addr} {xs : List V} (h : H q = some (.lst xs)) : SqL K H q xs := .inl (.inl h)
end
def Draws (K : PySem.W.Frag) (p : Addr) (c : Nat) (H H' : Hp) : Prop := Gd H H' ∧ PoolOk K p c H'
/-- _law_some: a new list of fewer than m questions -/
def spSome (K : PySem.W.Frag) : Sp := fun vs H Q _ => ∃ (p : Addr) (c : Nat) (m : Int), vs = [.ref p, .int m] ∧ PoolOk K p c H ∧ c + 200 < LIM ∧ 0 < m ∧ m ≤ 100 ∧
  ∀ H' D l, H D = none → Gd H H' → PoolOk K p (c + 200) H' → H' D = some (.lst (l.map V.int)) → Qn l → (l.length : Int) < m → Q (.ref D) H'
/-- _law_set: the ascending list -/
def spSet (K : PySem.W.Frag) : Sp := fun vs H Q _ => ∃ (q : Addr) (l : List Int), vs = [.ref q] ∧ SqL K H q (l.map V.int) ∧
  ∀ H' D, H D = none → Same H H' → H' D = some (.lst ((norm l).map V.int)) → Q (.ref D) H'
theorem ask_rg : ask48 = rgI 48 := rfl
theorem norm_rg (l : List Int) : (rgI 48).filter (fun x => decide (x ∈ l)) = norm l := rfl
theorem own_bin {C x y : Addr} {f : List Int → List Int → List Int} {l m : List Int} {H : Hp} {Q : VK} {E : XK} (px : PupAt C H x l) (py : PupAt C H y m) (k : ∀ z H', H z = none → Same H H' → PupAt C H' z (f l m) → Q (.ref z) H') :
    rOwn C (spBin C f) E (.ref x) (.ref y) H Q := by
  obtain ⟨dx, t, hx, _⟩ := id px
  obtain ⟨dy, u, hy, _⟩ := id py
  exact ⟨x, y, dx, dy, _, _, rfl, rfl, hx, hy, x, y, l, m, rfl, px, py, k⟩
theorem own_rel {C x y : Addr} {f : List Int → List Int → Bool} {l m : List Int} {H : Hp} {Q : VK} {E : XK} (px : PupAt C H x l) (py : PupAt C H y m) (k : ∀ H', Same H H' → Q (.bl (f (norm l) (norm m))) H') :
    rOwn C (spRel C f) E (.ref x) (.ref y) H Q := by
  obtain ⟨dx, t, hx, _⟩ := id px
  obtain ⟨dy, u, hy, _⟩ := id py
  exact ⟨x, y, dx, dy, _, _, rfl, rfl, hx, hy, x, y, l, m, rfl, px, py, k⟩
theorem fld_rights {K : PySem.W.Frag} {C x : Addr} {l : List Int} {H : Hp} {Q : VK} (px : PupAt C H x l) (c : Cls K C) (n : NoAttr K C "rights") (k : ∀ t, H t = some (.tup ((norm l).map V.int)) → Q (.ref t) H) :
    ∃ a C dx fs v, V.ref x = .ref a ∧ H a = some (.ins C dx fs) ∧ Cls K C ∧ NoAttr K C "rights" ∧ fs.lookup ("rights" : Str) = some v ∧ Q v H := by
  obtain ⟨dx, t, hx, ht⟩ := px
  exact ⟨x, C, dx, _, .ref t, rfl, hx, c, n, rfl, k t ht⟩
/-! the pure facts -/
theorem le_within {l m : List Int} (h1 : Qn l) : fLe (norm l) (norm m) = decide (l.filter (fun x => !decide (x ∈ m)) = []) := by
  rw [Bool.eq_iff_iff]
  unfold fLe
  rw [List.all_eq_true, decide_eq_true_eq, List.filter_eq_nil_iff]
  constructor
  · intro h x hx
    have := h x (mem_norm.mpr ⟨h1 x hx, hx⟩)
    rw [decide_eq_true_eq, mem_norm] at this
    simp [this.2]
  · intro h x hx
    obtain ⟨a, b⟩ := mem_norm.mp hx
    have := h x b
    rw [decide_eq_true_eq, mem_norm]
    exact ⟨a, by simpa using this⟩
theorem or_within {l m : List Int} (h1 : Qn l) : fEq (norm (fOr l m)) (norm m) = decide (l.filter (fun x => !decide (x ∈ m)) = []) := by
  rw [Bool.eq_iff_iff]
  unfold fEq fOr
  rw [decide_eq_true_eq, decide_eq_true_eq, List.filter_eq_nil_iff, norm_eq_iff]
  constructor
  · intro h x hx
    have := (h x (h1 x hx).1 (h1 x hx).2).mp (List.mem_append.mpr (.inl hx))
    simp [this]
  · intro h x h0 h1
    rw [List.mem_append]
    exact ⟨fun a => a.elim (fun b => by simpa using h x b) id, .inr⟩
theorem and_within {l m : List Int} (h1 : Qn l) : fEq (norm (fAnd l m)) (norm l) = decide (l.filter (fun x => !decide (x ∈ m)) = []) := by
  rw [Bool.eq_iff_iff]
  unfold fEq fAnd
  rw [decide_eq_true_eq, decide_eq_true_eq, List.filter_eq_nil_iff, norm_eq_iff]
  constructor
  · intro h x hx
    have := (h x (h1 x hx).1 (h1 x hx).2).mpr hx
    rw [List.mem_filter] at this
    simp [of_decide_eq_true this.2]
  · intro h x h0 h1
    rw [List.mem_filter]
    exact ⟨fun a => a.1, fun a => ⟨a, by simpa using h x a⟩⟩
theorem le_or (l m : List Int) : fLe (norm l) (norm (fOr l m)) = true := by
  unfold fLe fOr
  rw [List.all_eq_true]
  intro x hx
  obtain ⟨a, b⟩ := mem_norm.mp hx
  exact decide_eq_true (mem_norm.mpr ⟨a, List.mem_append.mpr (.inl b)⟩)
theorem le_and (l m : List Int) : fLe (norm (fAnd l m)) (norm m) = true := by
  unfold fLe fAnd
  rw [List.all_eq_true]
  intro x hx
  obtain ⟨a, b⟩ := mem_norm.mp hx
  exact decide_eq_true (mem_norm.mpr ⟨a, of_decide_eq_true (List.mem_filter.mp b).2⟩)
theorem sub_and (l m : List Int) : norm (fAnd (fSub l m) m) = [] := by
  unfold norm fAnd fSub
  rw [List.filter_eq_nil_iff]
  intro x _ h
  have h := of_decide_eq_true h
  rw [List.mem_filter, List.mem_filter] at h
  obtain ⟨⟨_, h2⟩, h3⟩ := h
  have := of_decide_eq_true h3
  simp [this] at h2
theorem sub_or_and (l m : List Int) : norm (fOr (fSub l m) (fAnd l m)) = norm l := norm_ext fun x h0 h1 => by
  unfold fOr fSub fAnd
  rw [List.mem_append, List.mem_filter, List.mem_filter]
  by_cases h : x ∈ m <;> simp [h]
theorem and_set (l m : List Int) : norm (fAnd l m) = (norm l).filter fun x => decide (x ∈ m) := by
  unfold fAnd
  rw [norm_filter]
theorem sub_set (l m : List Int) : norm (fSub l m) = (norm l).filter fun x => !decide (x ∈ m) := by
  unfold fSub
  rw [norm_filter]
theorem ne_false {l m : List Int} (e : l = m) : (!decide (l = m)) = false := by simp [e]
def spPair (K : PySem.W.Frag) : Sp := fun vs H Q _ => ∃ (o t : Addr) (l m : List Int), vs = [.ref o, .ref t] ∧ H o = some (.lst (l.map V.int)) ∧ H t = some (.lst (m.map V.int)) ∧ Qn l ∧ Qn m ∧ l.length ≤ 200 ∧ m.length ≤ 200 ∧ ∀ H', Same H H' → Q (.bl true) H'
theorem kit_bool {K : PySem.W.Frag} : PySem.W.kitOne K (.type "bool") (.type "bool") = some true := kit_ty (by decide +kernel)
theorem dec_self (b : Bool) : (!decide (V.bl b = V.bl b)) = false := by simp
theorem rg_ints (n : Nat) : rgV 0 (n : Int) = (rgI n).map V.int := by
  unfold rgV rgI
  rw [List.map_map, Int.sub_zero, Int.toNat_natCast]
  refine List.map_congr_left fun i _ => ?_
  show V.int (0 + (i : Int)) = V.int (i : Int)
  rw [Int.zero_add]
/-- a list of questions at r -/
def QsAt (H : Hp) (r : Addr) (l : List Int) : Prop := H r = some (.lst (l.map V.int)) ∧ Qn l ∧ l.length ≤ 200
theorem QsAt.gd {H H' : Hp} {r : Addr} {l : List Int} (e : Gd H H') (h : QsAt H r l) : QsAt H' r l := ⟨e.1 _ _ (np_ints l) h.1, h.2⟩
theorem QsAt.same {H H' : Hp} {r : Addr} {l : List Int} (e : Same H H') (h : QsAt H r l) : QsAt H' r l := h.gd e.gd
theorem two_at {x y : V} {r : Int} (h0 : 0 ≤ r) (h1 : r < 2) : atI [x, y] r = some (if r = 0 then x else y) := by
  rcases (show r = 0 ∨ r = 1 by omega) with e | e
  · subst e; exact atI0
  · subst e; exact atI1
/-! ## a pupil beside the ascending list of its questions -/
theorem np_refs (xs : List Addr) : ¬ isPool (.lst (xs.map V.ref)) := by
  rintro ⟨a, c, i, b, s, h⟩
  cases xs with
  | nil => cases h
  | cons x r =>
    injection h with h
    injection h with _ h
    cases r with
    | nil => cases h
    | cons y r => injection h with h _; cases h
def Pr (C : Addr) (H : Hp) (x y : Addr) : Prop := ∃ l, PupAt C H x l ∧ H y = some (.lst ((norm l).map V.int))
theorem Pr.same {C x y : Addr} {H H' : Hp} (e : Same H H') (h : Pr C H x y) : Pr C H' x y := let ⟨l, a, b⟩ := h; ⟨l, a.same e, e _ _ b⟩
theorem Pr.gd {C x y : Addr} {H H' : Hp} (e : Gd H H') (h : Pr C H x y) : Pr C H' x y := let ⟨l, a, b⟩ := h; ⟨l, a.gd e, e.1 _ _ (np_ints _) b⟩
theorem PupAt.mut {C x q : Addr} {H : Hp} {l : List Int} {zs : List V} {o : HO} (hq : H q = some (.lst zs)) (h : PupAt C H x l) : PupAt C (upd H q o) x l := by
  obtain ⟨dx, t, h1, h2⟩ := h
  exact ⟨dx, t, by rw [upd_ne (ne_of h1 hq (by intro z; cases z))]; exact h1, by rw [upd_ne (ne_of h2 hq (by intro z; cases z))]; exact h2⟩
theorem Pr.mut {C x y q : Addr} {H : Hp} {zs : List V} {o : HO} (hq : H q = some (.lst zs)) (ne : y ≠ q) (h : Pr C H x y) : Pr C (upd H q o) x y := let ⟨l, a, b⟩ := h; ⟨l, a.mut hq, by rw [upd_ne ne]; exact b⟩
theorem Pr.ne {C x y q z : Addr} {H : Hp} {zs : List V} (h : Pr C H x y) (hq : H q = some (.lst (.ref z :: zs))) : y ≠ q := by
  obtain ⟨l, a, b⟩ := h
  refine ne_of b hq fun e => ?_
  injection e with e
  cases hn : norm l with
  | nil => rw [hn] at e; cases e
  | cons u r => rw [hn] at e; injection e with e _; cases e
def Tri (C : Addr) (H : Hp) (PL SL : Addr) (xs ys : List Addr) : Prop := H PL = some (.lst (xs.map V.ref)) ∧ H SL = some (.lst (ys.map V.ref)) ∧ xs.length = 3 ∧ ys.length = 3 ∧ ∀ (k : Nat) x y, xs[k]? = some x → ys[k]? = some y → Pr C H x y
theorem Tri.gd {C PL SL : Addr} {H H' : Hp} {xs ys : List Addr} (e : Gd H H') (h : Tri C H PL SL xs ys) : Tri C H' PL SL xs ys :=
  ⟨e.1 _ _ (np_refs _) h.1, e.1 _ _ (np_refs _) h.2.1, h.2.2.1, h.2.2.2.1, fun k x y a b => (h.2.2.2.2 k x y a b).gd e⟩
theorem at_ref {xs : List Addr} {r : Int} (h0 : 0 ≤ r) (h1 : r < (xs.length : Int)) : ∃ (j : Nat) (x : Addr), xs[j]? = some x ∧ r = (j : Int) ∧ j < xs.length ∧ atI (xs.map V.ref) r = some (.ref x) := by
  obtain ⟨j, rfl⟩ : ∃ j : Nat, r = (j : Int) := ⟨r.toNat, by omega⟩
  have hj : j < xs.length := by omega
  refine ⟨j, xs[j], List.getElem?_eq_getElem hj, rfl, hj, atI_nat ?_⟩
  rw [List.getElem?_map, List.getElem?_eq_getElem hj]
  rfl
theorem get3 {xs : List Addr} {j : Nat} (h : xs.length = 3) (hj : j < 3) : ∃ x, xs[j]? = some x := ⟨xs[j]'(by omega), List.getElem?_eq_getElem _⟩
def spHas (C : Addr) : Sp := fun vs H Q _ => ∃ (a : Addr) (p : List Int) (z : Int), vs = [.ref a, .int z] ∧ PupAt C H a p ∧ Q (.bl (decide (z ∈ norm p))) H
def spLen (C : Addr) : Sp := fun vs H Q _ => ∃ (a : Addr) (p : List Int), vs = [.ref a] ∧ PupAt C H a p ∧ Q (.int ((norm p).length : Nat)) H
def spAdded (C : Addr) : Sp := fun vs H Q _ => ∃ (a : Addr) (p : List Int) (z : Int), vs = [.ref a, .int z] ∧ PupAt C H a p ∧ 0 ≤ z ∧ z < 48 ∧ ∀ x H', H x = none → Same H H' → PupAt C H' x (p ++ [z]) → Q (.ref x) H'
def spAfter (K : PySem.W.Frag) (C : Addr) : Sp := fun vs H Q _ => ∃ (p PL SL : Addr) (c : Nat) (xs ys : List Addr), vs = [.ref p, .ref PL, .ref SL] ∧ PoolOk K p c H ∧ c + 100 < LIM ∧ Tri C H PL SL xs ys ∧
  ∀ H' t x y, Gd H H' → PoolOk K p (c + 100) H' → H' t = some (.tup [.ref x, .ref y]) → H y = none → Pr C H' x y → Q (.ref t) H'
def spRight (C : Addr) : Sp := fun vs H Q _ => ∃ (PL SL : Addr) (xs ys : List Addr), vs = [.ref PL, .ref SL] ∧ Tri C H PL SL xs ys ∧ ∀ H', Same H H' → Q (.bl true) H'
theorem own_has {C x : Addr} {neg : Bool} {z : Int} {p : List Int} {H : Hp} {Q : VK} {E : XK} (px : PupAt C H x p) (k : Q (.bl (if neg then !decide (z ∈ norm p) else decide (z ∈ norm p))) H) : rOwnIn C (spHas C) E neg (.int z) (.ref x) H Q := by
  obtain ⟨dx, t, hx, _⟩ := id px
  exact ⟨x, dx, _, rfl, hx, x, p, z, rfl, px, _, rfl, k⟩
theorem own_len {C x : Addr} {p : List Int} {H : Hp} {Q : VK} {E : XK} (px : PupAt C H x p) (k : Q (.int ((norm p).length : Nat)) H) : rOwnLen C (spLen C) E [.ref x] H Q := by
  obtain ⟨dx, t, hx, _⟩ := id px
  have := norm_len p
  exact ⟨x, dx, _, rfl, hx, x, p, rfl, px, _, rfl, by omega, by omega, k⟩
theorem le_listW (l m : List Int) : fLe (norm l) (norm m) = decide ((norm l).filter (fun x => !decide (x ∈ norm m)) = []) := by
  have := le_within (m := norm m) (qn_norm l)
  rw [norm_norm, norm_norm] at this
  exact this
theorem dpAll_bls {K : PySem.W.Frag} {H : Hp} : ∀ bs : List Bool, DpAll K H (bs.map V.bl) (bs.map PyData.bool)
  | [] => .nil
  | n :: r => .cons (.bl n) (dpAll_bls r)
theorem canLay_bls : ∀ ns : List Bool, PyData.canLayAll0 (ns.map PyData.bool) = true
  | [] => by rw [List.map_nil, PyData.canLayAll0]
  | n :: r => by
    rw [List.map_cons, PyData.canLayAll0, canLay_bls r]
    rfl
theorem depth_bls : ∀ ns : List Bool, PyData.depthAll (ns.map PyData.bool) = 0
  | [] => by rw [List.map_nil, PyData.depthAll]
  | n :: r => by
    rw [List.map_cons, PyData.depthAll, depth_bls r]
    rfl
theorem shB (ns : List Bool) : SeqAt.shaped (.list (ns.map PyData.bool)) = true := by
  simp [SeqAt.shaped, PyData.canLay0, canLay_bls, PyData.depth, depth_bls]
theorem evAll_bls : ∀ ns : List Bool, PyData.eqvAll (ns.map PyData.bool) (ns.map PyData.bool) = true
  | [] => by rw [List.map_nil, PyData.eqvAll]
  | n :: r => by
    rw [List.map_cons, PyData.eqvAll, evAll_bls r]
    cases n <;> simp [PyData.eqv]
theorem neD_bls {K : PySem.W.Frag} {H : Hp} {a b : Addr} {ns : List Bool} {Q : VK} (h1 : SqL K H a (ns.map V.bl)) (h2 : SqL K H b (ns.map V.bl)) (q : Q (.bl false) H) : rNeD K (.ref a) (.ref b) H Q :=
  ⟨_, _, .lst h1 (dpAll_bls ns), .lst h2 (dpAll_bls ns), shB ns, shB ns, by rw [PyData.eqv, evAll_bls]; exact q⟩
theorem take_get {α : Type} {l : List α} {i : Nat} {x : α} (h : l[i]? = some x) : l.take (i + 1) = l.take i ++ [x] := by
  rw [List.take_add_one, h]
  rfl
end L2

namespace L2
open PySem PySem.Spec PyProof.Rows
/-! ## own errors whose __init__ calls the base's by the base's name -/
/-- what the base class B says of B.__init__ -/
structure BaseI (K : PySem.W.Frag) (B : Addr) : Prop where
  ga : PySem.W.specialIn K (.ref B) "__getattribute__" = some (some (.builtin "type.__getattribute__"))
  ty : PySem.W.typeIn K (.ref B) = some (.type "type")
  rd : PySem.W.readsIn K B (.type "type") = true
  fi : PySem.W.findCls K (.ref B) (.type "type") "__init__" = some (.val (.builtin "ValueError.__init__"))
section
variable {X : Cx} {o e : Expr} {es : List Expr} {to te : TE} {ta : TA} {f x : Str} {p p' p1 p2 pos : Pos} {B : Addr}
theorem pe_binit {pl : Sem Bool} (T : BaseI X.K B) (hg : Gl X x) (hm : X.mg x = some (.ref B)) (ha : PA X (e :: es) ta) (hdb : (x == ("__debug__" : Str)) = false := by decide)
    (hc : eval (.Call (.Attribute (.Name x p1) "__init__" p2) (e :: es) [] pos) X.env = (do
      let ov ← eval (.Name x p1) X.env
      standAt p2.atName
      let (f, first) ← holding [ov] (getMethod ov "__init__" pl)
      callWith pos f first (backTo pos (starEach (e :: es) X.env)) (backToKw pos (keywordEach [] X.env))) := by rfl)
    (he : starEach (e :: es) X.env = (false, eval e X.env) :: starEach es X.env := by rfl) (hpl : (backTo pos (starEach es X.env)).any (·.1) = false := by rfl) :
    PE X (.Call (.Attribute (.Name x p1) "__init__" p2) (e :: es) [] pos) (tVeI X.K ta) := by
  refine ⟨fun pins s σ H Q I h => ?_⟩
  refine PySem.W.methodCall_KW (ld_glob I hg hm ?_ hdb) hc
  obtain ⟨m, fr⟩ := I.fr
  refine PySem.W.method_of_cls fr I.ok.mod.kin T.ga (PySem.W.cls_val fr I.ok.mod.kin T.ty T.rd T.fi (by decide +kernel) ?_)
  show wpAny _ _ (callWith pos (Value.builtin "ValueError.__init__") [] (backTo pos (starEach (e :: es) X.env)) []) _ _ _
  refine callWith_method1 (thn (ha.run pos pins _ σ H _ (I.tok _) h) fun us s1 ⟨vs, H1, I1, r1, a, C, ws, ev, hl, T, ea, q⟩ => ?_) he hpl
  subst ev
  cases r1 with
  | @cons _ u0 _ ur ra rw' =>
    obtain rfl : u0 = Value.ref a := ra
    exact oinit_ok T I1 ea (by rw [← Paired.length rw', sizeLine_eq]; omega) fun s' J => ⟨.non, H1, J, rfl, q⟩
end
/-! ## a class made, a method called, where what is raised is wished for at the slots -/
section
variable {X : Cx} {CX : CXT} {k : Nat} {f C : Addr} {fd : FuncData} {ps : List Str} {sp : Sp} {E : St → XK} {x m : Str} {p pos apos : Pos} {e o : Expr} {es : List Expr} {ta : TE} {t : TA}
def tMakeS (C : Addr) (sp : Sp) (E : St → XK) (t : TA) : TE := fun σ H Q => t σ H fun vs H1 => ∀ x dx, H1 x = none → H1 dx = none → dx ≠ x →
  sp (.ref x :: vs) (upd (upd H1 dx (.own x)) x (.ins C dx [])) (fun v H2 => v = .non ∧ Q (.ref x) H2) (E σ)
theorem run_makeS {pins : List (Addr × Obj)} {σ : St} {H : Hp} {s : Shared} {Q : VK} {us : List Value} {vs : List V} (M : Mk X.K C f) (F : FnOk X.prog X.w X.K X.mg X.base CX k f fd ps sp) (hr : Room (k + 1) X.A) (hb : Binds X.K fd ps [])
    (hx : PassesAt CX X σ (E σ)) (I : Inv X pins σ H s) (r : Vals vs us)
    (h : ∀ x dx, H x = none → H dx = none → dx ≠ x → sp (.ref x :: vs) (upd (upd H dx (.own x)) x (.ins C dx [])) (fun v H2 => v = .non ∧ Q (.ref x) H2) (E σ)) : wpAny (model X.prog X.w) X.A (call (.ref C) us) (EP X pins σ Q) X.xe s := by
  let n := s.heap.objs.size
  have want := h (n + 1) n (I.hok.fresh (Nat.le_succ n)) (I.hok.fresh (Nat.le_refl n)) (Nat.ne_of_lt (Nat.lt_succ_self n))
  have J := Inv.made (C := C) I
  have rr : Vals (V.ref (n + 1) :: vs) (Value.ref (n + 1) :: us) := Paired.cons rfl r
  have len : (Value.ref (n + 1) :: us).length = ps.length := rr.length.symm.trans (F.len _ _ _ _ want)
  have bnd := hb _ (Value.ref (n + 1) :: us) J.kIn (by rw [List.append_nil]; exact len)
  rw [List.append_nil] at bnd
  have body := F.run _ X.stack _ _ ⟨Value.ref (n + 1) :: us, []⟩ (Value.ref (n + 1) :: us) _ _ (E σ) (hr.make C us []) (J.env0.make C us []) bnd rr want
  refine wpAny_call (make_map (f := f) I.kIn M.makes M.init (beq_iff_eq.mp M.fn) (codeAny_mono body fun res s' hq => ?_))
  match res, hq with
  | .error er, hq => exact hx pins _ _ er s' J hq
  | .ok (.ret u), hq =>
    obtain ⟨v, H', I3, rv, ev, q3⟩ := J.after hq
    subst ev
    exact ⟨rv, V.ref (n + 1), H', I3, rfl, q3⟩
  | .ok .next, hq => exact hq.elim
  | .ok .brk, hq => exact hq.elim
  | .ok .cont, hq => exact hq.elim
theorem pe_makeS (M : Mk X.K C f) (F : FnOk X.prog X.w X.K X.mg X.base CX k f fd ps sp) (hr : Room (k + 1) X.A) (hg : Gl X x) (hm : X.mg x = some (.ref C)) (hb : Binds X.K fd ps []) (hx : ∀ σ, PassesAt CX X σ (E σ))
    (ha : PA X (e :: es) t) (hdb : (x == ("__debug__" : Str)) = false := by decide) (he : starEach (e :: es) X.env = (false, eval e X.env) :: starEach es X.env := by rfl) (hpl : (backTo pos (starEach es X.env)).any (·.1) = false := by rfl) :
    PE X (.Call (.Name x p) (e :: es) [] pos) (tMakeS C sp E t) :=
  ⟨fun pins s σ H Q I h => wpAny_Call_Name_kw (ld_glob I hg hm
    (PySem.W.callWith_K (h₀ := X.base) I.ok.mod.kin M.kp (thn (ha.run pos pins s σ H _ I h) fun us s1 ⟨vs, H1, I1, r, q⟩ => ⟨I1.kIn, run_makeS M F hr hb (hx σ) I1 r q⟩) he hpl) hdb)⟩
/-- o.m(e, ..), what is raised wished for at the slots -/
def tMethT (C : Addr) (m : Str) (sp : Sp) (E : St → XK) (ta : TE) (t : TA) : TE := fun σ H Q => ta σ H fun x H1 => ∃ a dx fs, x = .ref a ∧ H1 a = some (.ins C dx fs) ∧ fs.lookup m = none ∧ t σ H1 fun vs H2 => sp (.ref a :: vs) H2 Q (E σ)
theorem pe_methT {pl : Sem Bool} (ho : PE X o ta) (c : Cls X.K C) (hm : Meth X.K C m f) (F : FnOk X.prog X.w X.K X.mg X.base CX k f fd ps sp) (hr : Room k X.A) (hb : Binds X.K fd ps []) (hx : ∀ σ, PassesAt CX X σ (E σ)) (ha : PA X (e :: es) t)
    (hst : starEach (e :: es) X.env = (false, eval e X.env) :: starEach es X.env := by rfl) (hpl : (backTo pos (starEach es X.env)).any (·.1) = false := by rfl)
    (ht : eval (.Call (.Attribute o m apos) (e :: es) [] pos) X.env = (eval o X.env >>= fun ov => standAt apos.atName >>= fun _ => holding [ov] (getMethod ov m pl) >>= fun ff =>
      callWith pos ff.1 ff.2 (backTo pos (starEach (e :: es) X.env)) (backToKw pos (keywordEach [] X.env))) := by rfl) :
    PE X (.Call (.Attribute o m apos) (e :: es) [] pos) (tMethT C m sp E ta t) := by
  refine ⟨fun pins s σ H Q I h => ?_⟩
  refine PySem.W.methodCall_KW (pl := pl) (thn (ho.run pins s σ H _ I h) fun u s1 hh => ?_) ht
  obtain ⟨x, H1, I1, rx, a, dx, fs, ex, ea, l, q⟩ := hh
  subst ex
  cases rx
  refine getmeth_ok I1 ea c hm l (PySem.W.callWith_K (first := [.ref a]) (h₀ := X.base) I.ok.mod.kin hm.kp (thn (ha.run pos pins s1 σ H1 _ I1 q) fun us s2 ⟨vs, H2, I2, r, q2⟩ => ⟨I2.kIn, ?_⟩) hst hpl)
  exact run_fnS (us := .ref a :: us) (vs := .ref a :: vs) F hr hb (hx σ) I2 (.cons rfl r) q2
end
/-! ## an error is made and raised: its dict d holds its one field -/
/-- X.__init__(self, v): the base's __init__, then self.f = v -/
def spErr (C : Addr) (f : Str) (ok : V → Prop) : Sp := fun vs H Q _ => ∃ (a : Addr) (v : V), vs = [.ref a, v] ∧ ok v ∧ H a = some (exo a C none) ∧
  ∀ dx, H dx = none → dx ≠ a → Q .non (upd (upd H dx (exd dx [(f, v)])) a (exo a C (some dx)))
def okInt (v : V) : Prop := ∃ i : Int, v = .int i ∧ i.natAbs.log2 < 1920
theorem err_make {C : Addr} {f : Str} {ok : V → Prop} {v : V} {H : Hp} {W : Value → Option Addr → Hp → Prop} {E : XK} (hv : ok v) (k : ∀ d, H d = none → W (.ref C) (some d) (upd H d (.xd [(f, v)]))) :
    [v].length ≤ 1000 ∧ ∀ a, H a = none → spErr C f ok (.ref a :: ([v] ++ [])) (upd H a (exo a C none))
      (fun u H2 => u = .non ∧ ∃ (d : Addr) (fs : List (Str × V)), H2 a = some (exo a C (some d)) ∧ H2 d = some (exd d fs) ∧ H d = none ∧ W (.ref C) (some d) (upd (del H2 a) d (.xd fs))) E := by
  refine ⟨by show 1 ≤ 1000; decide, fun a na => ⟨a, v, rfl, hv, upd_same, fun dx ndx ne => ⟨rfl, dx, [(f, v)], upd_same, ?_, ?_, ?_⟩⟩⟩
  · rw [upd_ne ne, upd_same]
  · rw [upd_ne ne] at ndx
    exact ndx
  · rw [upd_ne ne] at ndx
    have e : upd (del (upd (upd (upd H a (exo a C none)) dx (exd dx [(f, v)])) a (exo a C (some dx))) a) dx (.xd [(f, v)]) = upd H dx (.xd [(f, v)]) := by
      funext b
      by_cases hb : b = dx
      · subst hb
        rw [upd_same, upd_same]
      · rw [upd_ne hb, upd_ne hb]
        by_cases ha : b = a
        · subst ha
          rw [del_same, na]
        · rw [del_ne ha, upd_ne ha, upd_ne hb, upd_ne ha]
    rw [e]
    exact k dx ndx
end L2
namespace PySem.W
open PySem PySem.Spec PySem.Calls PyProof.Rows
section
variable {prog : Program} {w : World} {A : Around} {E : Value → Shared → Prop} {s : Shared} {K : Frag} {x D : Addr} {ox : Obj} {od : Option Obj}
/-- what the class of an error says of __class__ and of its own getter -/
structure ErrK (K : Frag) (D : Addr) : Prop where
  ga : findIn K (.ref D) "__getattribute__" = some (some (.builtin "BaseException.__getattribute__"))
  gg : findIn K (.ref D) "__getattr__" = some none
  sb : subIn K (.ref D) (.type "BaseException") = some true
  hd : hasDictIn K D = true
  cl : findIn K (.ref D) "__class__" = some (some (.builtin "object.__class__"))
  gt : specialIn K (.builtin "object.__class__") "__get__" = some (some (.builtin "getset_descriptor.__get__"))
  tk : takesIn K (.builtin "object.__class__") = some true
  mr : mroIn K D (.type "object") = some true
/-- e.__class__ of an error, with a dict of its own or without -/
theorem err_cls {Q : Option Value → Shared → Prop} (Z : ErrK K D) (X : K.In s.heap) (I : InstAt s.heap x ox D od) (h : Q (some (.ref D)) { s with toks := s.toks + 1 }) : wpAny (model prog w) A (getAttr? (.ref x) "__class__") Q E s := by
  have found : findObj K D od "__class__" = some (.bind (.builtin "getset_descriptor.__get__") (.builtin "object.__class__")) := by
    obtain ⟨cd, hc, _⟩ := any_some Z.hd
    unfold findObj
    rw [hc, Option.bind_some, Z.cl, Option.bind_some]
    simp [Z.gt, Z.tk]
  rcases s with ⟨hp, gs, dr, tk, os⟩
  have la := I.type (M := model prog w); have lb := looks_findIn (M := model prog w) X Z.ga; have lc := looks_findIn (M := model prog w) X Z.gg; have ld := looks_find (M := model prog w) X I found
  have isB : Looks (model prog w) hp (isInstance (.ref x) (.type "BaseException")) true := la.andThen (looks_subIn X Z.sb)
  have n2 : (Value.builtin "BaseException.__getattribute__" == Value.builtin "object.__getattribute__") = false := by decide +kernel
  have n1 : (onTheHeap (Value.ref D) && Value.builtin "BaseException.__getattribute__" == Value.builtin "object.__getattribute__") = false := by rw [n2, Bool.and_false]
  unfold getAttr? getAttrBy? getAttrBy
  refine wpAny_bind (wpAny_mkText (wpAny_bind (wpAny_attempt (wpAny_holding (wpAny_bind (la.at (wpAny_bind (lb.at (?_ : wpAny _ _ (if (onTheHeap (Value.ref D) && Value.builtin "BaseException.__getattribute__" == Value.builtin "object.__getattribute__") = true then _ else _) _ _ _)))))))))
  rw [n1, if_neg Bool.false_ne_true]
  unfold getAttrByItsOwn hookBefore
  refine wpAny_bind (?_ : wpAny _ _ (if onTheHeap (Value.ref D) = true then _ else _) _ _ _)
  have oh : onTheHeap (Value.ref D) = true := rfl
  rw [if_pos oh]
  refine lc.at (wpAny_bind (wpAny_attempt (wpAny_holding ?_)))
  unfold callGetattribute
  rw [show (false && onTheHeap (Value.builtin "BaseException.__getattribute__")) = false from rfl, if_neg Bool.false_ne_true]
  unfold boundAndCalled
  rw [PySem.F.excAttr_ValueError.ga.bind (.ref x)]
  refine wpAny_bind (wpAny_pure (?_ : wpAny _ _ (call (.builtin "BaseException.__getattribute__") [.ref x, .str "__class__" tk]) _ _ _))
  refine wpAny_call (codeAny_call_builtin PySem.F.excAttr_ValueError.ga.plain PySem.F.entry_bexc_ga (@check_slot (model prog w) _ _ ⟨hp, gs, dr, tk + 1, os⟩ "BaseException.__getattribute__" "BaseException" "__getattribute__" (.ref x) [.str "__class__" tk] [] _ (by decide +kernel) (by decide +kernel) isB (PySem.F.args_bexc_ga (.ref x) (.str "__class__" tk)) ?_))
  unfold Builtin.«object.__getattribute__»
  refine wpAny_bind (wpAny_of_eq (a := ((Value.ref x : Value), [Value.str "__class__" tk])) (by first | rfl | (simp only [slotArgs]; rfl)) (wpAny_bind (wpAny_pure (wpAny_bind (la.at (wpAny_bind (ld.at ?_)))))))
  refine (?_ : wpAny _ _ (holding [Value.builtin "object.__class__"] (call (.builtin "getset_descriptor.__get__") [.builtin "object.__class__", .ref x, .ref D]) >>= ret) _ _ _)
  refine wpAny_bind (wpAny_holding (wpAny_call (class_get (s := ⟨hp, gs, dr, tk + 1, os⟩) (ox := ox) (od := od) X I Z.mr (wpAny_pure (?_ : wpAny _ _ (handedOut (.ref D)) _ _ _)))))
  rw [handedOut_of (v := .ref D) rfl]
  first
    | exact wpAny_pure (wpAny_pure h)
    | exact wpAny_pure h
    | exact wpAny_pure (wpAny_bind (wpAny_pure (wpAny_pure h)))
theorem err_kit (Z : ErrK K D) : KitX K (.ref x) (.ref D) (fun h => ∃ ox od, InstAt h x ox D od) := by
  have own : ∃ c' d' cd' sl', K.lookup D = some ⟨c', d', .cls cd', sl'⟩ := by
    obtain ⟨cd, hc, _⟩ := any_some Z.hd
    unfold clsIn at hc
    split at hc
    · rename_i c' d' cd' sl' ho
      exact ⟨_, _, _, _, ho⟩
    · cases hc
  obtain ⟨c', d', cd', sl', ho⟩ := own
  refine ⟨fun _ _ _ ⟨_, _, I⟩ => I.type, fun _ _ X _ A' Q' E' s' k q => ?_, fun h tp dd its n sl X htp => Bool.eq_false_iff.mpr fun q => ?_, fun X ⟨_, _, I⟩ k => err_cls Z X I k⟩
  · unfold isType loadHead
    exact wpAny_bind (wpAny_loadPart (k _ _ (X _ _ ho)) (wpAny_pure q))
  · have e : D = tp := Value.ref.inj (beq_iff_eq.mp q)
    subst e
    have z := (X _ _ ho).symm.trans htp
    cases z
end
end PySem.W
namespace L2
open PySem PySem.Spec PyProof.Rows
/-- isinstance(e, c), e the error that the suite holds, with a dict of its own at d -/
def rIsD (K : PySem.W.Frag) (cls : Value) (d : Option Addr) (a : Addr) : List V → Hp → VK → Prop := fun xs H Q => ∃ (D dd : Addr) (fs : List (Str × V)) (c : V) (cv : Value) (b : Bool), cls = .ref D ∧ d = some dd ∧ H dd = some (.xd fs) ∧ PySem.W.ErrK K D ∧ xs = [.ref a, c] ∧ ClsV c cv ∧ PySem.W.kitOne K (.ref D) cv = some b ∧ Q (.bl b) H
theorem call_isD {X : Cx} {a : Addr} {oe : Obj} {cls : Value} {d : Option Addr} {pn : List (Addr × Obj)} (hz : Zc cls d oe) (hf : ∃ vs, oe.data = .fields vs) : CallR (X.suite a ((a, oe) :: pn)) (.builtin "isinstance") (rIsD X.K cls d a) := by
  intro pins s σ H xs us Q I r h
  obtain ⟨D, dd, fs, c, cv, b, rfl, rfl, hdd, Z, rfl, hc, e, q⟩ := h
  cases r with
  | cons rx rr =>
    cases rr with
    | cons rt rr =>
      cases rr
      cases rx
      obtain rfl := hc.eq rt
      obtain ⟨hget, _⟩ := I.pin (a, oe) (List.mem_append.mpr (.inl List.mem_cons_self))
      obtain ⟨vs, hv⟩ := hf
      have hx : ObjOk X.prog X.w H s.heap dd (.xd fs) := I.hok dd _ hdd
      obtain ⟨mA, hns, _⟩ := hx
      obtain ⟨od, ho, _⟩ := lookIn_ns hns
      have J : PySem.W.InstAt s.heap a oe D (some od) := ⟨hget, hz.1, by unfold PySem.W.notCls; rw [hv] <;> rfl, by rw [hz.2]; exact ho⟩
      exact PySem.W.kia_one (PySem.W.err_kit Z) I.kIn ⟨oe, some od, J⟩ e (fun z => nomatch z) fun tk => ⟨.bl b, H, I.kept (t' := tk) fun _ _ z => z, rfl, q⟩
end L2

namespace L2
open PySem PySem.Spec PyProof.Rows
/-! ## how long the words of an error are -/
theorem len_nat {n k : Nat} (hk : 0 < k) (h : n < 10 ^ k) : (Nat.repr n).toList.length ≤ k := by
  unfold Nat.repr
  rw [String.toList_ofList]
  exact (Nat.length_toDigits_le_iff (by decide) hk).mpr h
theorem len_toString {i : Int} {k : Nat} (hk : 0 < k) (h : i.natAbs < 10 ^ k) : (toString i).toList.length ≤ k + 1 := by
  show (Int.repr i).toList.length ≤ k + 1
  unfold Int.repr
  cases i with
  | ofNat m => exact Nat.le_succ_of_le (len_nat hk h)
  | negSucc m =>
    show ("-" ++ Nat.repr (m + 1)).toList.length ≤ k + 1
    rw [String.toList_append, List.length_append]
    have := len_nat hk (show m + 1 < 10 ^ k from h)
    show 1 + _ ≤ _
    omega
theorem len_app (a b : PySem.Str) : (a ++ b).length = a.length + b.length := by
  have e1 : (a ++ b).cps.toList.length = (a ++ b).length := Array.length_toList
  have e2 : a.cps.toList.length = a.length := Array.length_toList
  have e3 : b.cps.toList.length = b.length := Array.length_toList
  rw [PySem.W.KT.app_list, List.length_append, e2, e3] at e1
  exact e1.symm
/-- a number that an error may carry -/
def Bd (i : Int) : Prop := i.natAbs < 2 ^ 400
theorem Bd.log {i : Int} (h : Bd i) : i.natAbs.log2 < 1920 := by
  by_cases h0 : i.natAbs = 0
  · rw [h0]; decide
  · exact (Nat.log2_lt h0).mpr (Nat.lt_of_lt_of_le h (Nat.pow_le_pow_right (by decide) (by decide)))
theorem Bd.len {i : Int} (h : Bd i) : (PySem.Str.ofString (toString i)).length ≤ 200 := by
  rw [PySem.ofString_length]
  exact Nat.le_trans (len_toString (k := 150) (by decide) (Nat.lt_of_lt_of_le h (by decide +kernel))) (by decide)
def okB (v : V) : Prop := ∃ i : Int, v = .int i ∧ Bd i
/-! ## a pupil made of questions of which some may be none -/
def firstBad (l : List Int) : Option Int := l.find? fun k => !decide (0 ≤ k ∧ k < 48)
theorem first_of : ∀ {l : List Int} {i : Nat} {z : Int}, l[i]? = some z → (∀ y ∈ l.take i, 0 ≤ y ∧ y < 48) → ¬ (0 ≤ z ∧ z < 48) → firstBad l = some z
  | [], i, z, h, _, _ => by simp at h
  | y :: r, 0, z, h, _, hz => by
    have e : y = z := Option.some.inj h
    subst e
    unfold firstBad
    rw [List.find?_cons, decide_eq_false hz]
    rfl
  | y :: r, i + 1, z, h, hp, hz => by
    have hy := hp y (by rw [List.take_succ_cons]; exact List.mem_cons_self)
    have := first_of (l := r) (i := i) (z := z) h (fun u hu => hp u (by rw [List.take_succ_cons]; exact List.mem_cons_of_mem _ hu)) hz
    unfold firstBad at this ⊢
    rw [List.find?_cons, decide_eq_true hy]
    exact this
theorem first_none {l : List Int} (h : Qn l) : firstBad l = none := by
  unfold firstBad
  rw [List.find?_eq_none]
  intro x hx
  rw [decide_eq_true (h x hx)]
  decide
def spInitX (K : PySem.W.Frag) (C CB : Addr) : Sp := fun vs H Q E => ∃ (x dx q : Addr) (l : List Int), vs = [.ref x, .ref q] ∧ H x = some (.ins C dx []) ∧ SqA K H q (l.map V.int) ∧ l.length ≤ 500 ∧ (∀ z ∈ l, Bd z) ∧
  (Qn l → ∀ H' t, H' x = some (.ins C dx [("rights", .ref t)]) → H' t = some (.tup ((norm l).map V.int)) → (∀ b o, b ≠ x → H b = some o → H' b = some o) → Q .non H') ∧
  ∀ z, firstBad l = some z → ∀ d H', H d = none → Same H H' → H' d = some (.xd [("number", .int z)]) → E (.ref CB) (some d) H'
theorem pupX_make {K : PySem.W.Frag} {C CB q : Addr} {H : Hp} {l : List Int} {R : Addr → Hp → Prop} {E : XK} (hq : SqA K H q (l.map V.int)) (hl : l.length ≤ 500) (hb : ∀ z ∈ l, Bd z) (k : Qn l → ∀ x H', H x = none → Same H H' → PupAt C H' x l → R x H')
    (kx : ∀ z, firstBad l = some z → ∀ d H', H d = none → Same H H' → H' d = some (.xd [("number", .int z)]) → E (.ref CB) (some d) H') :
    ∀ x dx, H x = none → H dx = none → dx ≠ x → spInitX K C CB [.ref x, .ref q] (upd (upd H dx (.own x)) x (.ins C dx [])) (fun v H2 => v = .non ∧ R x H2) E := by
  intro x dx nx ndx ne
  have s0 : Same H (upd (upd H dx (.own x)) x (.ins C dx [])) := (same_upd ndx).mut nx
  refine ⟨x, dx, q, l, rfl, upd_same, hq.same s0, hl, hb, fun hn H' t h1 h2 h3 => ⟨rfl, k hn x H' nx (fun b o e => ?_) ⟨dx, t, h1, h2⟩⟩, fun z hz d H' nd e h => kx z hz d H' (s0.free nd) (s0.trans e) h⟩
  exact h3 b o (ne_of_none e nx) (s0 b o e)
/-- where all are questions nothing is raised -/
theorem pupX_good {K : PySem.W.Frag} {C CB q : Addr} {H : Hp} {l : List Int} {R : Addr → Hp → Prop} {E : XK} (hq : SqA K H q (l.map V.int)) (hl : l.length ≤ 500) (hn : Qn l) (k : ∀ x H', H x = none → Same H H' → PupAt C H' x l → R x H') :
    ∀ x dx, H x = none → H dx = none → dx ≠ x → spInitX K C CB [.ref x, .ref q] (upd (upd H dx (.own x)) x (.ins C dx [])) (fun v H2 => v = .non ∧ R x H2) E :=
  pupX_make hq hl (fun z hz => by have := hn z hz; unfold Bd; have : z.natAbs < 48 := by omega
                                  exact Nat.lt_trans this (by decide +kernel)) (fun _ => k) fun z hz => by rw [first_none hn] at hz; cases hz
def spAddedX (C CB : Addr) : Sp := fun vs H Q E => ∃ (a : Addr) (p : List Int) (z : Int), vs = [.ref a, .int z] ∧ PupAt C H a p ∧ Bd z ∧
  ((0 ≤ z ∧ z < 48) → ∀ x H', H x = none → Same H H' → PupAt C H' x (p ++ [z]) → Q (.ref x) H') ∧
  (¬ (0 ≤ z ∧ z < 48) → ∀ d H', H d = none → Same H H' → H' d = some (.xd [("number", .int z)]) → E (.ref CB) (some d) H')
theorem Bd.small {z : Int} (h0 : -1000 ≤ z) (h1 : z < 1000) : Bd z := by
  unfold Bd
  have : z.natAbs < 1001 := by omega
  exact Nat.lt_trans this (by decide +kernel)
theorem kit_sub {K : PySem.W.Frag} {C B : Addr} (h : PySem.W.subIn K (.ref C) (.ref B) = some true) (h2 : PySem.W.isClsIn K B = true) (h3 : PySem.W.typeIn K (.ref B) = some (.type "type")) : PySem.W.kitOne K (.ref C) (.ref B) = some true := by
  unfold PySem.W.kitOne
  split
  · rfl
  · show (if ((PySem.W.clsIn K B).isSome && PySem.W.typeIn K (.ref B) == some (.type "type")) = true then PySem.W.subIn K (.ref C) (.ref B) else none) = some true
    rw [show (PySem.W.clsIn K B).isSome = true from h2, h3, h]
    rfl
end L2

namespace L2
open PySem PySem.Spec PyProof.Rows
/-! ## an object of an own class made by C(e, .., k=v) -/
section
variable {X : Cx} {CX : CXT} {k n : Nat} {f C : Addr} {fd : FuncData} {ps ks : List Str} {sp : Sp} {E : St → XK} {x : Str} {p pos : Pos} {e : Expr} {es : List Expr} {kws : List Keyword} {t tk : TA} {g : List Value → List Value → List Value} {gV : List V → List V → List V}
def tMakeN (C : Addr) (n m : Nat) (sp : Sp) (gV : List V → List V → List V) (E : St → XK) (t tk : TA) : TE := fun σ H Q => t σ H fun vs H1 => tk σ H1 fun zs H2 => vs.length + 1 = n ∧ zs.length = m ∧ ∀ x dx, H2 x = none → H2 dx = none → dx ≠ x →
  sp (gV (.ref x :: vs) zs) (upd (upd H2 dx (.own x)) x (.ins C dx [])) (fun v H3 => v = .non ∧ Q (.ref x) H3) (E σ)
theorem run_makeN {pins : List (Addr × Obj)} {σ : St} {H : Hp} {s : Shared} {Q : VK} {us ws : List Value} {vs zs : List V} (M : Mk X.K C f) (F : FnOk X.prog X.w X.K X.mg X.base CX k f fd ps sp) (hr : Room (k + 1) X.A) (hb : KBn X.K fd ps n ks g gV)
    (hx : PassesAt CX X σ (E σ)) (I : Inv X pins σ H s) (r : Vals vs us) (rz : Vals zs ws) (hn : vs.length + 1 = n) (hz : zs.length = ks.length)
    (h : ∀ x dx, H x = none → H dx = none → dx ≠ x → sp (gV (.ref x :: vs) zs) (upd (upd H dx (.own x)) x (.ins C dx [])) (fun v H2 => v = .non ∧ Q (.ref x) H2) (E σ)) : wpAny (model X.prog X.w) X.A (call (.ref C) us (ks.zip ws)) (EP X pins σ Q) X.xe s := by
  let n0 := s.heap.objs.size
  have want := h (n0 + 1) n0 (I.hok.fresh (Nat.le_succ n0)) (I.hok.fresh (Nat.le_refl n0)) (Nat.ne_of_lt (Nat.lt_succ_self n0))
  have J := Inv.made (C := C) I
  have rr : Vals (V.ref (n0 + 1) :: vs) (Value.ref (n0 + 1) :: us) := Paired.cons rfl r
  have bnd := hb.to _ (Value.ref (n0 + 1) :: us) ws J.kIn (by rw [← rr.length]; exact hn) (by rw [← rz.length]; exact hz)
  have body := F.run _ X.stack _ _ ⟨Value.ref (n0 + 1) :: us, ks.zip ws⟩ (g (Value.ref (n0 + 1) :: us) ws) _ _ (E σ) (hr.make C us (ks.zip ws)) (J.env0.make C us (ks.zip ws)) bnd (hb.rel rr rz) want
  refine wpAny_call (make_map (f := f) I.kIn M.makes M.init (beq_iff_eq.mp M.fn) (codeAny_mono body fun res s' hq => ?_))
  match res, hq with
  | .error er, hq => exact hx pins _ _ er s' J hq
  | .ok (.ret u), hq =>
    obtain ⟨v, H', I3, rv, ev, q3⟩ := J.after hq
    subst ev
    exact ⟨rv, V.ref (n0 + 1), H', I3, rfl, q3⟩
  | .ok .next, hq => exact hq.elim
  | .ok .brk, hq => exact hq.elim
  | .ok .cont, hq => exact hq.elim
theorem pe_makeN (M : Mk X.K C f) (F : FnOk X.prog X.w X.K X.mg X.base CX k f fd ps sp) (hr : Room (k + 1) X.A) (hg : Gl X x) (hm : X.mg x = some (.ref C)) (hb : KBn X.K fd ps n ks g gV) (hx : ∀ σ, PassesAt CX X σ (E σ))
    (ha : PA X (e :: es) t) (hk : PK X kws tk) (h1 : ((backToKw pos (keywordEach kws X.env)).all fun x => x.fst.isSome) = true := by rfl) (h2 : List.filterMap (fun x => x.fst) (backToKw pos (keywordEach kws X.env)) = ks := by rfl)
    (hdb : (x == ("__debug__" : Str)) = false := by decide) (he : starEach (e :: es) X.env = (false, eval e X.env) :: starEach es X.env := by rfl)
    (hpl : ((((backTo pos (starEach (e :: es) X.env)).any fun x => x.fst) || (backToKw pos (keywordEach kws X.env)).any fun x => x.fst.isNone) = false) := by rfl) :
    PE X (.Call (.Name x p) (e :: es) kws pos) (tMakeN C n ks.length sp gV E t tk) := by
  refine ⟨fun pins s σ H Q I h => wpAny_Call_Name_kw (ld_glob I hg hm ?_ hdb)⟩
  refine PySem.W.callWith_KW (h₀ := X.base) I.ok.mod.kin M.kp h1 (thn (ha.run pos pins s σ H _ I h) fun us s1 hh => ?_) hpl he
  obtain ⟨vs, H1, I1, r, hq⟩ := hh
  refine thn (hk.run pos pins s1 σ H1 _ I1 hq) fun ws s2 hh => ?_
  obtain ⟨zs, H2, I2, rz, hn, hz, q⟩ := hh
  refine ⟨I2.kIn, ?_⟩
  rw [h2]
  exact run_makeN M F hr hb (hx σ) I2 r rz hn hz q
end
end L2

namespace PySem
open PySem PySem.Spec PyProof.Rows L2
theorem wp_ite {α : Type} {M : Model} {A : Around} {E : Value → Shared → Prop} {s : Shared} {Q : α → Shared → Prop} {c : Bool} {t u : Sem α} (h1 : wpAny M A t Q E s) (h2 : wpAny M A u Q E s) : wpAny M A (if c = true then t else u) Q E s := by
  cases c
  · rw [if_neg (by decide)]; exact h2
  · rw [if_pos rfl]; exact h1
theorem enumT_new (l : Addr) (items : Array Value) :
  Meets (Builtin.«enumerate.__new__» ⟨[.type "enumerate", .ref l], []⟩) fun A R s =>
    s.heap.IsTuple l items ∧ R (.ok (.ret (.ref (s.heap.push { cls := .type "tuple_iterator", data := .fields #[.ref l, .int 0 0] }).objs.size)))
      { s with heap := (s.heap.push { cls := .type "tuple_iterator", data := .fields #[.ref l, .int 0 0] }).push { cls := .type "enumerate", data := .fields #[.none, .bool false, .ref s.heap.objs.size, rawInt 0, .none, .none] } } := by
  intro prog w A R s ⟨ht, hR⟩
  have rest : ∀ b : Bool, wpAny (model prog w) A.in1 (pyIter (.ref l) >>= fun it => Builtin.SmallTypes.newRecord (.type "enumerate") (Builtin.SmallTypes.ownedTupleFields ++ [it, rawInt 0, .none, .none]) >>= fun r => ret r)
      (fun fin s' => match fin with
        | Fin.done f => R (.ok f) s'
        | Fin.again c' => Code.quiet c' = true ∧ codeAny (model prog w) A c' R s') (fun e s' => R (.error e) s') s := fun _ => by
    refine wpAny_bind (wpAny_pyIter_tuple ht (wpAny_bind ?_))
    unfold Builtin.SmallTypes.newRecord newObj
    show wpAny _ _ (if _ then _ else _) _ _ _
    rw [if_neg (by show ¬ (6 > sizeLine + 2); decide)]
    unfold newObjAsIs
    refine wpAny_bind (wpAny_alloc (wpAny_pure ?_))
    exact wpAny_pure hR
  unfold Builtin.«enumerate.__new__» Builtin.SmallTypes.newClass
  refine wpAny_bind (wpAny_of_eq (a := (Value.type "enumerate", [Value.ref l])) ?_ ?_)
  · show (isSubtype (.type "enumerate") (.type "enumerate") >>= fun b => _) = _
    rw [sub_enumerate]
    rfl
  · show wpAny _ _ (if (Value.type "enumerate" == Value.type "enumerate") = true then _ else _) _ _ _
    rw [if_pos (beq_self_eq_true _)]
    unfold Builtin.SmallTypes.calledThroughType
    refine wpAny_bind (wpAny_bind (wpAny_stack fun st _ _ _ => wpAny_pure ?_))
    refine wp_ite ?_ ?_
    · refine wpAny_bind (wpAny_of_eq (a := (Value.ref l, none)) rfl ?_)
      exact rest true
    · refine wpAny_bind (wpAny_of_eq (a := (Value.ref l, none)) rfl ?_)
      exact rest true
theorem Draws.tuple {prog : Program} {w : World} {A : Around} (hA : A.handled = none) (it l : Addr) (ne : l ≠ it) (items : Array Value) :
    PySem.Draws prog w A it [it, l] items.size (fun i v => items[i]? = some v) fun i h => h.IsTupleIter it l i ∧ h.IsTuple l items := by
  refine ⟨fun i h ⟨⟨o, ho, _⟩, _⟩ => ⟨o, ho⟩, fun i h h' ⟨a, b⟩ k => ⟨a.at (k it (by simp)), b.at (k l (by simp))⟩, fun i s Q E hi ⟨a, b⟩ k => ?_, fun s Q E ⟨a, b⟩ k => ?_⟩
  · refine RZ.nextOf_tuple_item a b (Array.getElem?_eq_getElem hi) fun h' a' sb => ?_
    exact k _ h' s.toks (Array.getElem?_eq_getElem hi) ⟨a', b.at fun o ho => by rw [sb.2 l ne]; exact ho⟩ sb
  · exact RZ.nextOf_tuple_end hA a b (by simp) fun h' e x y => k h' e x y
theorem call_enumT {prog : Program} {w : World} {A : Around} {E : Value → Shared → Prop} {s : Shared} {l : Addr} {items : Array Value} {Q : Value → Shared → Prop} (ht : s.heap.IsTuple l items)
    (h : ∀ h' : Heap, IsEnum h' (s.heap.objs.size + 1) s.heap.objs.size 0 .none → h'.IsTupleIter s.heap.objs.size l 0 → h'.objs.size = s.heap.objs.size + 2 → (∀ b o, s.heap.get? b = some o → h'.get? b = some o) → Q (.ref (s.heap.objs.size + 1)) { s with heap := h' }) :
    wpAny (model prog w) A (call (.type "enumerate") [.ref l]) Q E s := by
  have e1 : (s.heap.push { cls := .type "tuple_iterator", data := .fields #[.ref l, .int 0 0] }).objs.size = s.heap.objs.size + 1 := by rw [Heap.size_push]
  have keep : ∀ b o, s.heap.get? b = some o → ((s.heap.push { cls := .type "tuple_iterator", data := .fields #[.ref l, .int 0 0] }).push { cls := .type "enumerate", data := .fields #[.none, .bool false, .ref s.heap.objs.size, rawInt 0, .none, .none] }).get? b = some o := fun b o e => Heap.get?_push_of_some _ (Heap.get?_push_of_some _ e)
  have g1 : ((s.heap.push { cls := .type "tuple_iterator", data := .fields #[.ref l, .int 0 0] }).push { cls := .type "enumerate", data := .fields #[.none, .bool false, .ref s.heap.objs.size, rawInt 0, .none, .none] }).get? (s.heap.objs.size + 1) = some { cls := .type "enumerate", data := .fields #[.none, .bool false, .ref s.heap.objs.size, rawInt 0, .none, .none] } := by heap_get
  have g0 : ((s.heap.push { cls := .type "tuple_iterator", data := .fields #[.ref l, .int 0 0] }).push { cls := .type "enumerate", data := .fields #[.none, .bool false, .ref s.heap.objs.size, rawInt 0, .none, .none] }).get? s.heap.objs.size = some { cls := .type "tuple_iterator", data := .fields #[.ref l, .int 0 0] } := by heap_get
  refine callType_new F.called_enumerate (by decide) (F.typeCall_enumerate_1 _) (F.newCall_enumerate_1 _) ?_ F.entry_enumerate_new (enumT_new l items) ?_
  · intro obj
    exact F.args_object_init_1 obj
  · refine ⟨ht, ?_⟩
    show _ ∧ _
    refine ⟨?_, ?_⟩
    · rw [e1]
      exact ⟨_, g1, rfl⟩
    · rw [e1]
      exact h _ g1 ⟨_, g0, rfl, rfl⟩ (by rw [Heap.size_push, e1]) keep
end PySem
namespace L2
open PySem PySem.Spec PyProof.Rows
/-- enumerate over a tuple -/
def IteT (K : PySem.W.Frag) (a : Addr) : It :=
  ⟨fun i H => ∃ xs x, SqT K H a xs ∧ xs[i]? = some x, fun i H v H' => ∃ T x, v = .ref T ∧ H T = none ∧ H' = upd H T (.tup [.int (i : Nat), x]) ∧ ∀ xs, SqT K H a xs → xs[i]? = some x, fun i H => ∃ xs, SqT K H a xs ∧ xs.length = i⟩
def iEnumT (K : PySem.W.Frag) (ta : TA) : TI := fun σ H R => ta σ H fun vs H1 => ∃ a xs, vs = [.ref a] ∧ SqT K H1 a xs ∧ R (IteT K a) H1
theorem turn_enumT {P : Program} {w : World} {K : PySem.W.Frag} {elts : List Expr} {kk : Nat} {tpos : Pos} (a e it : Addr) :
    Turn P w K (.Tuple elts kk tpos) (IteT K a) [e, it] e fun i h => (∃ old, IsEnum h e it (i : Nat) old) ∧ h.IsTupleIter it a i ∧ e ≠ it := by
  refine ⟨by simp, fun i h ⟨⟨old, z⟩, ⟨o, ho, _, hd⟩, _⟩ b hb => ?_, fun i h h' ⟨⟨old, z⟩, y, ne⟩ k => ⟨⟨old, k e (by simp) _ z⟩, y.at (k it (by simp)), ne⟩, fun X hP hw hK hc i pins s σ H E I fp ⟨⟨old, z⟩, y, ne⟩ go => ?_, fun X hP hw hK hc i pins s σ H E I fp ⟨⟨old, z⟩, y, ne⟩ st => ?_, fun A i s Q E ⟨⟨old, z⟩, y, ne⟩ q => wpAny_pyIter_enum z q⟩
  · rcases List.mem_cons.mp hb with e1 | hb
    · subst e1
      exact ⟨_, z, fun v h => by cases h⟩
    · obtain rfl := List.mem_singleton.mp hb
      exact ⟨o, ho, fun v h => by rw [hd] at h; cases h⟩
  · subst hP hw hK
    obtain ⟨xs, x, hs, hx⟩ := go
    obtain ⟨its, hv, ht, hlen⟩ := I.tuple hs
    have hl := hv.length
    have hi : i < its.toArray.size := by
      have := (List.getElem?_eq_some_iff.mp hx).1
      rw [List.size_toArray]
      omega
    have ha : a ≠ it := fun q => by
      subst q
      obtain ⟨o, ho, hc, _⟩ := y
      obtain ⟨o', ho', hc', _⟩ := ht
      rw [ho] at ho'
      obtain rfl := Option.some.inj ho'
      rw [hc] at hc'
      exact absurd hc' (by decide)
    refine wpAny_pyNext_enum_itemD (Draws.tuple (A := X.A.in1) (I.ok.hd hc) it a ha its.toArray) z ⟨y, ht⟩ hi ne (by
      intro q
      rcases List.mem_cons.mp q with q | q
      · exact ne q
      · have q := List.mem_singleton.mp q
        subst q
        obtain ⟨o', ho', hc', _⟩ := ht
        rw [z] at ho'
        obtain rfl := Option.some.inj ho'
        exact absurd hc' (by show ¬ (Value.type "enumerate" = Value.type "tuple"); decide)) fun x' h' tk hx' out st' tup sz kp => ?_
    obtain ⟨u, hu, ru⟩ : ∃ u, its[i]? = some u ∧ RelV x u := paired_get hv hx
    have ex : x' = u := by
      rw [List.getElem?_toArray, hu] at hx'
      exact (Option.some.inj hx').symm
    subst ex
    have hT : H s.heap.objs.size = none := I.hok.fresh (Nat.le_refl _)
    refine ⟨_, rfl, wpAny_letOwnedTupleGo_enum out fun h2 z2 sb => ?_⟩
    have eT : s.heap.objs.size ≠ e := fun q => Nat.lt_irrefl _ (q ▸ Heap.lt_size z)
    have tup2 : h2.get? s.heap.objs.size = some { cls := .type "tuple", data := .seq #[.int (i : Nat) tk, x'] } := by rw [sb.2 _ eT]; exact tup
    have y2 : h2.IsTupleIter it a (i + 1) := st'.1.at fun o ho => by rw [sb.2 it (Ne.symm ne)]; exact ho
    refine ⟨.ref s.heap.objs.size, upd H s.heap.objs.size (.tup [.int (i : Nat), x]), ?_, rfl, ⟨_, x, rfl, hT, rfl, fun ys hy => by rw [I.tuple_inj hy hs]; exact hx⟩, ⟨⟨x', z2⟩, y2, ne⟩, fun b hb => ?_⟩
    · refine Inv.turnedNew (s := s) (ch := [e, it]) I (fun b o nb hb => ?_) fp (Nat.le_refl _) ⟨by show 2 ≤ sizeLine; decide, [.int (i : Nat) tk, x'], .cons ⟨tk, rfl⟩ (.cons ru .nil), ⟨_, tup2, rfl, _, rfl⟩⟩
      have n1 : b ≠ e := fun q => nb (by rw [q]; simp)
      have n2 : b ≠ it := fun q => nb (by rw [q]; simp)
      rw [sb.2 b n1]
      exact kp b o n1 n2 hb
    · have nb : b ≠ s.heap.objs.size := by
        rcases List.mem_cons.mp hb with q | q
        · rw [q]; exact Ne.symm eT
        · rw [List.mem_singleton.mp q]
          obtain ⟨o, ho, _⟩ := y
          exact fun q => Nat.lt_irrefl _ (q ▸ Heap.lt_size ho)
      rw [upd_ne nb]
      exact (fp b hb).1
  · subst hP hw hK
    obtain ⟨xs, hs, hl⟩ := st
    obtain ⟨its, hv, ht, hlen⟩ := I.tuple hs
    have hl2 := hv.length
    have ha : a ≠ it := fun q => by
      subst q
      obtain ⟨o, ho, hc, _⟩ := y
      obtain ⟨o', ho', hc', _⟩ := ht
      rw [ho] at ho'
      obtain rfl := Option.some.inj ho'
      rw [hc] at hc'
      exact absurd hc' (by decide)
    have en : its.toArray.size = i := by rw [List.size_toArray]; omega
    refine wpAny_pyNext_enum_endD (Draws.tuple (A := X.A.in1) (I.ok.hd hc) it a ha its.toArray) z (by rw [en]; exact ⟨y, ht⟩) fun h' eb => ⟨rfl, ?_⟩
    have f := fp it (by simp)
    exact I.turned (fun b o nb hb => eb b o nb hb) f.1 f.2.1 f.2.2.2.1 f.2.2.2.2.1 f.2.2.2.2.2
theorem pi_enumT {X : Cx} {e : Expr} {ta : TA} {p pos tpos : Pos} {elts : List Expr} {kk : Nat} (hg : Gl X "enumerate") (hm : X.mg "enumerate" = none) (ha : PA X [e] ta) (he : starEach [e] X.env = [(false, eval e X.env)] := by rfl) :
    PI X (.Tuple elts kk tpos) (.Call (.Name "enumerate" p) [e] [] pos) (iEnumT X.K ta) := by
  refine ⟨fun pins s σ H R I h => ?_⟩
  refine wpAny_Call_Name_kw (ld_blt I hg hm (u := .type "enumerate") (by decide +kernel) ?_ (by decide) (by decide))
  refine PyProof.Rows.callWith_type1 (thn (ha.run pos pins s σ H _ I h) fun us s1 hh => ?_) he rfl
  obtain ⟨vs, H1, I1, r, a, xs, ev, hs, hR⟩ := hh
  subst ev
  cases r with
  | cons ra rr =>
    cases rr
    cases ra
    obtain ⟨its, hv, ht, hlen⟩ := I1.tuple hs
    refine call_enumT ht fun h' z y sz keep => wpAny_pyIter_enum z ?_
    have n1 : s1.heap.objs.size + 1 ≠ s1.heap.objs.size := Nat.succ_ne_self _
    refine ⟨s1.heap.objs.size + 1, [s1.heap.objs.size + 1, s1.heap.objs.size], _, IteT X.K a, H1, rfl, I1.kept keep, turn_enumT a (s1.heap.objs.size + 1) s1.heap.objs.size, ⟨⟨_, z⟩, y, n1⟩, fun b hb => ?_, hR⟩
    have hle : s1.heap.objs.size ≤ b := by
      rcases List.mem_cons.mp hb with q | q
      · rw [q]; exact Nat.le_succ _
      · rw [List.mem_singleton.mp q]; exact Nat.le_refl _
    exact I1.fpOk hle (I1.hok.fresh hle)
/-- a loop over enumerate(a tuple) -/
theorem for_enumT {K : PySem.W.Frag} {a : Addr} {xs : List V} {g : TG} {tb : TS} {D : Ends} {σ : St} {H : Hp} (Pv : Nat → St → Hp → Prop) (h0 : Pv 0 σ H) (hs : ∀ i σ H, i ≤ xs.length → Pv i σ H → SqT K H a xs)
    (st : ∀ i x σ H T, xs[i]? = some x → Pv i σ H → H T = none → g (.ref T) σ (upd H T (.tup [.int (i : Nat), x])) fun σ2 H2 => tb { nx := Pv (i + 1), rt := D.rt, bk := D.nx, ct := Pv (i + 1) } σ2 H2)
    (e : ∀ σ H, Pv xs.length σ H → D.nx σ H) :
    ∃ W : Nat → Nat → St → Hp → Prop, (∃ m, W 0 m σ H) ∧ ∀ i m σ H, W i m σ H → (IteT K a).stop i H ∧ D.nx σ H ∨ (IteT K a).go i H ∧ ∃ N : St → Hp → Prop, (∀ σ' H', N σ' H' → ∃ m', m' < m ∧ W (i + 1) m' σ' H') ∧
      ∀ x H', (IteT K a).yld i H x H' → g x σ H' fun σ2 H2 => tb { nx := N, rt := D.rt, bk := D.nx, ct := N } σ2 H2 := by
  refine ⟨fun i m σ H => Pv i σ H ∧ i + m = xs.length, ⟨xs.length, h0, Nat.zero_add _⟩, fun i m σ H ⟨hp, hm⟩ => ?_⟩
  have hS := hs i σ H (by omega) hp
  by_cases hi : i < xs.length
  · refine .inr ⟨⟨xs, xs[i], hS, List.getElem?_eq_getElem hi⟩, Pv (i + 1), fun σ' H' hp' => ⟨m - 1, by omega, hp', by omega⟩, fun v H' ⟨T, x, ev, hT, eH, hx⟩ => ?_⟩
    subst ev
    subst eH
    exact st i x σ H T (hx xs hS) hp hT
  · obtain rfl : i = xs.length := by omega
    exact .inl ⟨⟨xs, hS, rfl⟩, e σ H hp⟩
end L2

namespace L2
open PySem PySem.Spec PyProof.Rows
theorem passAt0 {CX : CXT} {X : Cx} {E : XK} (h : Passes CX X E) (σ : St) : PassesAt CX X σ E := fun pins H s e s' I q => h pins σ H s e s' I q
theorem vals_app {vs zs : List V} {us ws : List Value} (h1 : Vals vs us) (h2 : Vals zs ws) : Vals (vs ++ zs) (us ++ ws) := by
  induction h1 with
  | nil => exact h2
  | cons r _ ih => exact .cons r ih
/-! ## webs -/
/-- a row: a question and two or three targets -/
def RowOk (i n : Nat) (e : Int) (row : List Int) : Prop := ∃ q r, row = q :: r ∧ (r.length = 2 ∨ r.length = 3) ∧ 0 ≤ q ∧ q < 48 ∧ ∀ t ∈ r, -e ≤ t ∧ t < n ∧ ¬ (0 ≤ t ∧ t ≤ i)
/-- nothing is asked again behind a node: A i holds the questions that may be asked from node i on -/
def Cert (rows : List (List Int)) : Prop := ∃ A : Nat → Int → Prop, ∀ i q r, rows[i]? = some (q :: r) → A i q ∧ ∀ t ∈ r, 0 ≤ t → ¬ A t.toNat q ∧ ∀ z, A t.toNat z → A i z
structure GoodW (rows : List (List Int)) (e o : Int) : Prop where
  e1 : 1 ≤ e
  e2 : e ≤ 60
  len : rows.length ≤ 400
  row : ∀ i row, rows[i]? = some row → RowOk i rows.length e row
  o1 : -e ≤ o
  o2 : o < rows.length
  cert : Cert rows
/-- the rows stand as tuples at as -/
def RowsAt (H : Hp) (as : List Addr) (rows : List (List Int)) : Prop := as.length = rows.length ∧ ∀ (i : Nat) a row, as[i]? = some a → rows[i]? = some row → H a = some (.tup (row.map V.int))
theorem RowsAt.same {H H' : Hp} {as : List Addr} {rows : List (List Int)} (e : Same H H') (h : RowsAt H as rows) : RowsAt H' as rows := ⟨h.1, fun i a row x y => e _ _ (h.2 i a row x y)⟩
theorem RowsAt.gd {H H' : Hp} {as : List Addr} {rows : List (List Int)} (e : Gd H H') (h : RowsAt H as rows) : RowsAt H' as rows := ⟨h.1, fun i a row x y => e.1 _ _ (np_tup _) (h.2 i a row x y)⟩
def WebAt (C : Addr) (H : Hp) (x : Addr) (rows : List (List Int)) (e o : Int) : Prop := ∃ dx nt as, H x = some (.ins C dx [("nodes", .ref nt), ("ends", .int e), ("start", .int o)]) ∧ H nt = some (.tup (as.map V.ref)) ∧ RowsAt H as rows
theorem WebAt.same {C : Addr} {H H' : Hp} {x : Addr} {rows : List (List Int)} {e o : Int} (s : Same H H') (h : WebAt C H x rows e o) : WebAt C H' x rows e o := by
  obtain ⟨dx, nt, as, h1, h2, h3⟩ := h
  exact ⟨dx, nt, as, s _ _ h1, s _ _ h2, h3.same s⟩
theorem WebAt.gd {C : Addr} {H H' : Hp} {x : Addr} {rows : List (List Int)} {e o : Int} (s : Gd H H') (h : WebAt C H x rows e o) : WebAt C H' x rows e o := by
  obtain ⟨dx, nt, as, h1, h2, h3⟩ := h
  exact ⟨dx, nt, as, s.1 _ _ (np_ins _ _ _) h1, s.1 _ _ (np_tup _) h2, h3.gd s⟩
/-- the row at a place -/
theorem rows_get {H : Hp} {as : List Addr} {rows : List (List Int)} (h : RowsAt H as rows) {i : Nat} (hi : i < rows.length) : ∃ a row, as[i]? = some a ∧ rows[i]? = some row ∧ H a = some (.tup (row.map V.int)) := by
  have hi2 : i < as.length := by rw [h.1]; exact hi
  exact ⟨as[i], rows[i], List.getElem?_eq_getElem hi2, List.getElem?_eq_getElem hi, h.2 i _ _ (List.getElem?_eq_getElem hi2) (List.getElem?_eq_getElem hi)⟩
/-! masks -/
def natV (m : Nat) : V := .int (m : Int)
theorem and_bit {b q : Nat} (h : b.testBit q = false) : Builtin.bitAnd (b : Int) ((2 ^ q : Nat) : Int) = 0 := by
  rw [PyProof.Rows.bitAnd_pp (Int.natCast_nonneg _) (Int.natCast_nonneg _), Int.toNat_natCast, Int.toNat_natCast]
  have : b &&& 2 ^ q = 0 := Nat.eq_of_testBit_eq fun i => by
    rw [Nat.testBit_and, Nat.testBit_two_pow, Nat.zero_testBit]
    by_cases e : q = i
    · subst e; rw [h]; rfl
    · rw [decide_eq_false e, Bool.and_false]
  rw [this]
  rfl
theorem or_nat (b m : Nat) : Builtin.bitOr (b : Int) (m : Int) = ((b ||| m : Nat) : Int) := by
  rw [Bits.bitOr_pp (Int.natCast_nonneg _) (Int.natCast_nonneg _), Int.toNat_natCast, Int.toNat_natCast]
theorem get_natV {l : List Nat} {i m : Nat} (h : l[i]? = some m) : (l.map natV)[i]? = some (.int (m : Int)) := by
  rw [List.getElem?_map, h]
  rfl
def MaskOk (A : Nat → Int → Prop) (j m : Nat) : Prop := ∀ z : Nat, m.testBit z = true → A j (z : Int)
def spTwice : Sp := fun vs H Q _ => ∃ (nt : Addr) (as : List Addr) (rows : List (List Int)) (e : Int), vs = [.ref nt] ∧ H nt = some (.tup (as.map V.ref)) ∧ RowsAt H as rows ∧ rows.length ≤ 400 ∧ (∀ i row, rows[i]? = some row → RowOk i rows.length e row) ∧ Cert rows ∧ ∀ H', Same H H' → Q .non H'
def spIn (C : Addr) : Sp := fun vs H Q _ => ∃ (x : Addr) (dx : Addr) (fs : List (Str × V)) (nt : Addr) (xs : List V) (e z : Int), vs = [.ref x, .int z] ∧ H x = some (.ins C dx fs) ∧ fs.lookup ("ends" : Str) = some (.int e) ∧ fs.lookup ("nodes" : Str) = some (.ref nt) ∧ H nt = some (.tup xs) ∧ Q (.bl (decide (-e ≤ z ∧ z < (xs.length : Nat)))) H
def spStand (C : Addr) : Sp := fun vs H Q _ => ∃ (x dx nt nd : Addr) (fs : List (Str × V)) (xs : List V) (e : Int) (k : Nat) (row : List Int), vs = [.ref x, .int k, .ref nd] ∧ H x = some (.ins C dx fs) ∧ fs.lookup ("ends" : Str) = some (.int e) ∧ fs.lookup ("nodes" : Str) = some (.ref nt) ∧ H nt = some (.tup xs) ∧ H nd = some (.tup (row.map V.int)) ∧ RowOk k xs.length e row ∧ ∀ H', Same H H' → Q (.bl true) H'
def spLenW (C : Addr) : Sp := fun vs H Q _ => ∃ (x dx nt : Addr) (fs : List (Str × V)) (xs : List V), vs = [.ref x] ∧ H x = some (.ins C dx fs) ∧ fs.lookup ("nodes" : Str) = some (.ref nt) ∧ H nt = some (.tup xs) ∧ Q (.int (xs.length : Nat)) H
def spFirst (C : Addr) : Sp := fun vs H Q _ => ∃ (x dx nt : Addr) (fs : List (Str × V)) (xs : List V), vs = [.ref x] ∧ H x = some (.ins C dx fs) ∧ fs.lookup ("nodes" : Str) = some (.ref nt) ∧ H nt = some (.tup xs) ∧ Q (.int (if xs.isEmpty then -1 else 0)) H
theorem at_tup {l : List V} {j : Nat} {v : V} (h : l[j]? = some v) : atI l (j : Int) = some v := atI_nat h
theorem cut_row (q : Int) (r : List Int) : cutV ((q :: r).map V.int) (some 1) none = r.map V.int := by
  unfold cutV HT.sIx
  simp only [List.length_map, List.length_cons]
  rw [if_neg (by decide)]
  show List.take (r.length + 1 - min 1 (r.length + 1)) (List.drop (min 1 (r.length + 1)) (V.int q :: r.map V.int)) = _
  rw [Nat.min_eq_left (Nat.succ_le_succ (Nat.zero_le _))]
  show List.take (r.length + 1 - 1) (r.map V.int) = _
  exact List.take_of_length_le (by rw [List.length_map]; omega)
/-- node[1:] of a row -/
theorem rest_row {K : PySem.W.Frag} {H : Hp} {a : Addr} {q : Int} {r : List Int} {Q : VK} (h : H a = some (.tup ((q :: r).map V.int))) (k : ∀ p, H p = none → Q (.ref p) (upd H p (.tup (r.map V.int)))) : rSlA K (.ref a) (some 1) none H Q := by
  refine ⟨a, _, rfl, tup_of h, fun e => ?_, fun _ p np => ?_⟩
  · exfalso
    have e := e.1
    unfold HT.sIx at e
    dsimp only at e
    rw [if_neg (by decide), List.map_cons, List.length_cons] at e
    have : min (1 : Int).toNat ((r.map V.int).length + 1) = 1 := Nat.min_eq_left (Nat.succ_le_succ (Nat.zero_le _))
    rw [this] at e
    exact absurd e (by decide)
  · have ec : cutV ((q :: r).map V.int) (some 1) none = r.map V.int := by
      rw [cut_row]
    rw [ec]
    exact k p np
/-- a row as it is passed: a tuple or a list -/
def RowIn (H : Hp) (a : Addr) (row : List Int) : Prop := H a = some (.tup (row.map V.int)) ∨ H a = some (.lst (row.map V.int))
theorem RowIn.same {H H' : Hp} {a : Addr} {row : List Int} (e : Same H H') (h : RowIn H a row) : RowIn H' a row := h.elim (fun h => .inl (e _ _ h)) fun h => .inr (e _ _ h)
def StartV (rows : List (List Int)) (o : Int) (v : V) : Prop := v = .int o ∨ (v = .non ∧ o = if rows.isEmpty then -1 else 0)
def spWebInit (K : PySem.W.Frag) (C : Addr) : Sp := fun vs H Q _ => ∃ (x dx q : Addr) (as : List Addr) (rows : List (List Int)) (e o : Int) (v : V), vs = [.ref x, .ref q, .int e, v] ∧ H x = some (.ins C dx []) ∧ SqL K H q (as.map V.ref) ∧ as.length = rows.length ∧
  (∀ (i : Nat) a row, as[i]? = some a → rows[i]? = some row → RowIn H a row) ∧ GoodW rows e o ∧ StartV rows o v ∧
  ∀ H', WebAt C H' x rows e o → (∀ b u, b ≠ x → H b = some u → H' b = some u) → Q .non H'
theorem put1 {v : V} : putF ("nodes" : Str) v [] = [(("nodes" : Str), v)] := by rfl
theorem put2 {u v : V} : putF ("ends" : Str) v [(("nodes" : Str), u)] = [(("nodes" : Str), u), (("ends" : Str), v)] := by rfl
theorem put3 {u v z : V} : putF ("start" : Str) v [(("nodes" : Str), u), (("ends" : Str), z)] = [(("nodes" : Str), u), (("ends" : Str), z), (("start" : Str), v)] := by rfl
/-! ## drawn webs -/
def spNames (K : PySem.W.Frag) : Sp := fun vs H Q _ => ∃ (p : Addr) (c : Nat) (m : Int), vs = [.ref p, .int m] ∧ PoolOk K p c H ∧ c + 100 < LIM ∧ 0 < m ∧ m ≤ 48 ∧
  ∀ H' D l, H D = none → Gd H H' → PoolOk K p (c + 100) H' → H' D = some (.lst (l.map V.int)) → Qn l → l ≠ [] → (l.length : Int) ≤ m → l.Nodup → Q (.ref D) H'
def TgtOk (e cnt idx t : Int) : Prop := -e ≤ t ∧ t < cnt ∧ ¬ (0 ≤ t ∧ t ≤ idx)
def spTarget (K : PySem.W.Frag) : Sp := fun vs H Q _ => ∃ (p : Addr) (c : Nat) (idx cnt e : Int), vs = [.ref p, .int idx, .int cnt, .int e] ∧ PoolOk K p c H ∧ c + 10 < LIM ∧ 0 ≤ idx ∧ idx < cnt ∧ cnt ≤ 400 ∧ 1 ≤ e ∧ e ≤ 60 ∧
  ∀ H' t, Gd H H' → PoolOk K p (c + 3) H' → TgtOk e cnt idx t → Q (.int t) H'
/-- one drawn node: its question is in its own list b, in none of the lists of its targets, and b holds these -/
def NdOk (e : Int) (N g : Nat) (nms row b : List Int) (bels : List (List Int)) : Prop := ∃ q r, row = q :: r ∧ (r.length = 2 ∨ r.length = 3) ∧ q ∈ nms ∧ q ∈ b ∧ ∀ t ∈ r, TgtOk e N g t ∧ (0 ≤ t → ∃ b', bels[(t - g - 1).toNat]? = some b' ∧ q ∉ b' ∧ ∀ z ∈ b', z ∈ b)
def GoodS (e : Int) (N : Nat) (nms : List Int) : List (List Int) → List (List Int) → Prop
  | [], [] => True
  | row :: rows, b :: bels => GoodS e N nms rows bels ∧ NdOk e N (N - (rows.length + 1)) nms row b bels
  | [], _ :: _ => False
  | _ :: _, [] => False
theorem GoodS.len {e : Int} {N : Nat} {nms : List Int} : ∀ {rows bels : List (List Int)}, GoodS e N nms rows bels → bels.length = rows.length
  | [], [], _ => rfl
  | _ :: _, _ :: _, h => by rw [List.length_cons, List.length_cons, GoodS.len h.1]
  | [], _ :: _, h => h.elim
  | _ :: _, [], h => h.elim
/-- by places: base is what stands before these rows -/
theorem GoodS.at {e : Int} {N : Nat} {nms : List Int} : ∀ {rows bels : List (List Int)} {base : Nat}, GoodS e N nms rows bels → base + rows.length = N → ∀ (j : Nat) row, rows[j]? = some row →
    ∃ q r b, row = q :: r ∧ (r.length = 2 ∨ r.length = 3) ∧ q ∈ nms ∧ bels[j]? = some b ∧ q ∈ b ∧ ∀ t ∈ r, TgtOk e N (base + j : Nat) t ∧ (0 ≤ t → ∃ b', bels[t.toNat - base]? = some b' ∧ q ∉ b' ∧ ∀ z ∈ b', z ∈ b)
  | [], [], _, _, _, j, row, hj => by simp at hj
  | [], _ :: _, _, h, _, _, _, _ => h.elim
  | _ :: _, [], _, h, _, _, _, _ => h.elim
  | row0 :: rows, b0 :: bels, base, h, hb, j, row, hj => by
    rw [List.length_cons] at hb
    cases j with
    | zero =>
      obtain rfl : row0 = row := Option.some.inj hj
      obtain ⟨q, r, e1, hl, hq, hqb, ht⟩ := h.2
      have eg : N - (rows.length + 1) = base := by omega
      rw [eg] at ht
      refine ⟨q, r, b0, e1, hl, hq, rfl, hqb, fun t m => ?_⟩
      obtain ⟨h1, h2⟩ := ht t m
      refine ⟨by simpa using h1, fun t0 => ?_⟩
      obtain ⟨b', hb', h3⟩ := h2 t0
      have := h1.2.2
      have hlt : (base : Int) < t := by
        refine Int.not_le.mp fun hle => this ⟨t0, hle⟩
      refine ⟨b', ?_, h3⟩
      have : t.toNat - base = (t - base - 1).toNat + 1 := by omega
      rw [this, List.getElem?_cons_succ]
      exact hb'
    | succ j =>
      obtain ⟨q, r, b, e1, hl, hq, hbj, hqb, ht⟩ := GoodS.at (base := base + 1) h.1 (by omega) j row hj
      refine ⟨q, r, b, e1, hl, hq, hbj, hqb, fun t m => ?_⟩
      obtain ⟨h1, h2⟩ := ht t m
      refine ⟨by rw [show base + (j + 1) = base + 1 + j by omega]; exact h1, fun t0 => ?_⟩
      obtain ⟨b', hb', h3⟩ := h2 t0
      have := h1.2.2
      have hlt : ((base + 1 + j : Nat) : Int) < t := by
        refine Int.not_le.mp fun hle => this ⟨t0, hle⟩
      refine ⟨b', ?_, h3⟩
      have : t.toNat - base = (t.toNat - (base + 1)) + 1 := by omega
      rw [this, List.getElem?_cons_succ]
      exact hb'
theorem GoodS.good {e o : Int} {nms : List Int} {rows bels : List (List Int)} (h : GoodS e rows.length nms rows bels) (hn : Qn nms) (e1 : 1 ≤ e) (e2 : e ≤ 60) (hl : rows.length ≤ 400) (o1 : -e ≤ o) (o2 : o < rows.length) : GoodW rows e o := by
  refine ⟨e1, e2, hl, fun i row hi => ?_, o1, o2, fun g z => ∃ b, bels[g]? = some b ∧ z ∈ b, fun i q r hi => ?_⟩
  · obtain ⟨q, r, b, er, hr, hq, _, _, ht⟩ := h.at (base := 0) (Nat.zero_add _) i row hi
    refine ⟨q, r, er, hr, (hn q hq).1, (hn q hq).2, fun t m => ?_⟩
    have := (ht t m).1
    rw [Nat.zero_add] at this
    exact this
  · obtain ⟨q', r', b, er, hr, hq, hb, hqb, ht⟩ := h.at (base := 0) (Nat.zero_add _) i _ hi
    obtain ⟨rfl, rfl⟩ := List.cons.inj er
    refine ⟨⟨b, hb, hqb⟩, fun t m t0 => ?_⟩
    obtain ⟨b', hb', h1, h2⟩ := (ht t m).2 t0
    rw [Nat.sub_zero] at hb'
    refine ⟨fun ⟨b2, hb2, hz⟩ => ?_, fun z ⟨b2, hb2, hz⟩ => ?_⟩
    · rw [hb'] at hb2
      obtain rfl := Option.some.inj hb2
      exact h1 hz
    · rw [hb'] at hb2
      obtain rfl := Option.some.inj hb2
      exact ⟨b, hb, h2 z hz⟩
def spNodes (K : PySem.W.Frag) : Sp := fun vs H Q _ => ∃ (p nm : Addr) (c N : Nat) (e : Int) (sk : Bool) (nms : List Int), vs = [.ref p, .int (N : Int), .int e, .ref nm, .bl sk] ∧ PoolOk K p c H ∧ c + 1000 < LIM ∧ N ≤ 13 ∧ 1 ≤ e ∧ e ≤ 60 ∧
  H nm = some (.lst (nms.map V.int)) ∧ nms ≠ [] ∧ nms.length ≤ 48 ∧
  ∀ H' D as rows bels, H D = none → Gd H H' → PoolOk K p (c + 1000) H' → H' D = some (.lst (as.map V.ref)) → RowsAt H' as rows → rows.length = N → GoodS e N nms rows bels → Q (.ref D) H'
theorem Gd.but {H0 H H' : Hp} {D : Addr} (g : Gd H0 H) (n : H0 D = none) (k : ∀ b o, b ≠ D → H b = some o → H' b = some o) : Gd H0 H' :=
  ⟨fun b o np h => k b o (ne_of_none h n) (g.1 b o np h), fun b o pl h => let ⟨o', p', h'⟩ := g.2 b o pl h; ⟨o', p', k b o' (ne_of_none h n) h'⟩⟩
theorem PoolOk.but {K : PySem.W.Frag} {p D : Addr} {c : Nat} {H H' : Hp} {ys : List V} (h : PoolOk K p c H) (hD : H D = some (.lst ys)) (n : ¬ isPool (.lst ys)) (k : ∀ b o, b ≠ D → H b = some o → H' b = some o) : PoolOk K p c H' := by
  obtain ⟨sa, ns, c', i, b, s, h1, h2, h3⟩ := h
  refine ⟨sa, ns, c', i, b, s, ?_, k _ _ (fun e => ?_) h2, h3⟩
  · rcases h1 with ⟨o, h1⟩ | h1
    · exact .inl ⟨o, k _ _ (ne_of h1 hD (by intro z; cases z)) h1⟩
    · exact .inr h1
  · subst e
    rw [h2] at hD
    injection hD with hD
    exact n ⟨sa, c', i, b, s, hD.symm⟩
theorem at_int {l : List Int} {r : Int} (h0 : 0 ≤ r) (h1 : r < (l.length : Int)) : ∃ z, z ∈ l ∧ atI (l.map V.int) r = some (.int z) := by
  obtain ⟨j, rfl⟩ : ∃ j : Nat, r = (j : Int) := ⟨r.toNat, by omega⟩
  have hj : j < l.length := by omega
  exact ⟨l[j], List.getElem_mem hj, atI_nat (by rw [List.getElem?_map, List.getElem?_eq_getElem hj]; rfl)⟩
/-! ## web[i] in a try body -/
section
variable {X : Cx} {CX : CXT} {n : Nat} {f C : Addr} {fd : FuncData} {ps : List Str} {sp : Sp} {pins : List (Addr × Obj)} {σ : St} {H : Hp} {s : Shared}
theorem run_ownS {E : XK} {A : Around} {vs : List V} {us : List Value} {Q : VK} (F : FnOk X.prog X.w X.K X.mg X.base CX n f fd ps sp) (sb : Sub X n A) (hb : Binds X.K fd ps []) (hx : PassesAt CX X σ E)
    (I : Inv X pins σ H s) (r : Vals vs us) (h : sp vs H Q E) : wpAny (model X.prog X.w) A (call (.ref f) us) (EP X pins σ Q) X.xe s := by
  have e0 : Env0 X.prog X.w X.K X.mg X.base A X.stack s H := by
    have e := I.env0
    exact ⟨by rw [sb.fr]; exact e.frames, e.mod, e.bs, e.bsz, e.funs, e.frf, e.hok, e.bare⟩
  have hl := F.len _ _ _ _ h
  have hl2 : us.length = ps.length := by rw [← hl, r.length]
  refine wpAny_call (codeAny_mono (F.run A X.stack s H ⟨us, []⟩ us vs Q E sb.room e0 (by
    have := hb s us I.kIn (by simpa using hl2)
    simpa using this) r h) fun r' s' hq => ?_)
  cases r' with
  | error e => exact hx pins H s e s' I hq
  | ok fl =>
    cases fl with
    | ret w => exact I.after hq
    | next => exact False.elim hq
    | brk => exact False.elim hq
    | cont => exact False.elim hq
def tOwnIxS (C : Addr) (sp : Sp) (E : St → XK) (ta tb : TE) : TE := fun σ H Q => ta σ H fun x H1 => tb σ H1 fun y H2 => rOwnIx C sp (E σ) x y H2 Q
theorem pe_ownIxS {E : St → XK} {a b : Expr} {ta tb : TE} {pos : Pos} (F : FnOk X.prog X.w X.K X.mg X.base CX n f fd ps sp) (hr : Room (n + 1) X.A) (hs : PySem.W.findIn X.K (.ref C) "__getitem__" = some (some (.ref f))) (hfn : PySem.W.fnIn X.K f = true) (hf : PySem.W.isFn X.K (.ref f) = true)
    (hb : Binds X.K fd ps []) (hx : ∀ σ, PassesAt CX X σ (E σ)) (ha : PE X a ta) (hb' : PE X b tb)
    (hsl : ∀ x i, subscripted b true (.ref x) i = runValue (.builtin "lifetime.subscript" ⟨[.ref x, i], []⟩) := by intro _ _; with_unfolding_all rfl) : PE X (.Subscript a b pos) (tOwnIxS C sp E ta tb) := by
  refine ⟨fun pins s σ H Q I h => ?_⟩
  refine Subscript_ (binT ha hb' I h fun v u s2 x y H2 I2 rx ry q => ?_)
  obtain ⟨c, dx, fs, rfl, hc, q⟩ := q
  cases rx
  obtain ⟨mB, J', _⟩ := ins_get I2.hok hc
  obtain ⟨od', J', _⟩ := J'.look
  obtain ⟨m, hF⟩ := I2.fr
  have sb : Sub X (n + 1) X.A := ⟨hr, rfl⟩
  exact PySem.W.sub_K hF I2.ok.mod.kin J' hs hfn hf (run_ownS (vs := [.ref c, y]) F sb.in1 hb (hx σ) I2 (.cons rfl (.cons ry .nil)) q) (hsl _ _)
end
/-- web[at] -/
def spItem (C CN : Addr) : Sp := fun vs H Q E => ∃ (x : Addr) (rows : List (List Int)) (e o z : Int), vs = [.ref x, .int z] ∧ WebAt C H x rows e o ∧ Bd z ∧
  ((0 ≤ z ∧ z < rows.length) → ∀ t row, rows[z.toNat]? = some row → H t = some (.tup (row.map V.int)) → Q (.ref t) H) ∧
  (¬ (0 ≤ z ∧ z < rows.length) → ∀ d H', H d = none → Same H H' → H' d = some (.xd [("index", .int z)]) → E (.ref CN) (some d) H')
/-! equality of tuples of tuples -/
def rowD (r : List Int) : PyData := .tuple (r.map PyData.int)
theorem dpAll_rows {K : PySem.W.Frag} {H : Hp} : ∀ {as : List Addr} {rows : List (List Int)}, RowsAt H as rows → DpAll K H (as.map V.ref) (rows.map rowD)
  | [], [], _ => .nil
  | [], _ :: _, h => by cases h.1
  | _ :: _, [], h => by cases h.1
  | a :: as, r :: rows, h => .cons (.tup (tup_of (h.2 0 a r rfl rfl)) (dpAll_ints r)) (dpAll_rows ⟨by have := h.1; simpa using this, fun j b row h1 h2 => h.2 (j + 1) b row h1 h2⟩)
theorem canLay_rows : ∀ rows : List (List Int), PyData.canLayAll0 (rows.map rowD) = true
  | [] => by rw [List.map_nil, PyData.canLayAll0]
  | n :: r => by
    rw [List.map_cons, PyData.canLayAll0, canLay_rows r]
    simp [rowD, PyData.canLay0, canLay_ints]
theorem depth_rows : ∀ rows : List (List Int), PyData.depthAll (rows.map rowD) ≤ 1
  | [] => by rw [List.map_nil, PyData.depthAll]; decide
  | n :: r => by
    have := depth_rows r
    rw [List.map_cons, PyData.depthAll]
    simp [rowD, PyData.depth, depth_ints]
    omega
theorem shR (rows : List (List Int)) : SeqAt.shaped (.tuple (rows.map rowD)) = true := by
  have := depth_rows rows
  simp [SeqAt.shaped, PyData.canLay0, canLay_rows, PyData.depth]
  omega
theorem ev_rows : ∀ rows rows2 : List (List Int), PyData.eqvAll (rows.map rowD) (rows2.map rowD) = decide (rows = rows2)
  | [], [] => by rw [List.map_nil, PyData.eqvAll]; rfl
  | [], _ :: _ => by rw [List.map_nil, List.map_cons, PyData.eqvAll]; rfl
  | _ :: _, [] => by rw [List.map_nil, List.map_cons, PyData.eqvAll]; rfl
  | a :: r, b :: s => by
    rw [List.map_cons, List.map_cons, PyData.eqvAll, ev_rows r s]
    unfold rowD
    rw [evT, Bool.eq_iff_iff, Bool.and_eq_true, decide_eq_true_eq, decide_eq_true_eq, decide_eq_true_eq, List.cons.injEq]
theorem eqD_rows {K : PySem.W.Frag} {H : Hp} {a b : Addr} {as bs : List Addr} {rows rows2 : List (List Int)} {Q : VK} (h1 : H a = some (.tup (as.map V.ref))) (h2 : H b = some (.tup (bs.map V.ref))) (r1 : RowsAt H as rows) (r2 : RowsAt H bs rows2) (q : Q (.bl (decide (rows = rows2))) H) : rEqD K (.ref a) (.ref b) H Q :=
  ⟨_, _, .tup (tup_of h1) (dpAll_rows r1), .tup (tup_of h2) (dpAll_rows r2), shR rows, shR rows2, by rw [PyData.eqv, ev_rows]; exact q⟩
theorem neD_rows {K : PySem.W.Frag} {H : Hp} {a b : Addr} {as bs : List Addr} {rows rows2 : List (List Int)} {Q : VK} (h1 : H a = some (.tup (as.map V.ref))) (h2 : H b = some (.tup (bs.map V.ref))) (r1 : RowsAt H as rows) (r2 : RowsAt H bs rows2) (q : Q (.bl (!decide (rows = rows2))) H) : rNeD K (.ref a) (.ref b) H Q :=
  ⟨_, _, .tup (tup_of h1) (dpAll_rows r1), .tup (tup_of h2) (dpAll_rows r2), shR rows, shR rows2, by rw [PyData.eqv, ev_rows]; exact q⟩
/-- web == other -/
def spEqW (C : Addr) : Sp := fun vs H Q _ => ∃ (x y : Addr) (rows rows2 : List (List Int)) (e o e2 o2 : Int), vs = [.ref x, .ref y] ∧ WebAt C H x rows e o ∧ WebAt C H y rows2 e2 o2 ∧ Q (.bl (decide (rows = rows2 ∧ e = e2 ∧ o = o2))) H
theorem neD_bad {K : PySem.W.Frag} {H : Hp} {x y : Addr} {s : Str} {z : Int} {Q : VK} (h1 : SqT K H x [.str s, .int z]) (h2 : SqT K H y [.str s, .int z]) (q : Q (.bl false) H) (hs : PyData.strOk s = true := by decide +kernel) : rNeD K (.ref x) (.ref y) H Q := by
  refine ⟨_, _, .tup h1 (.cons (.str s) (.cons (.int z) .nil)), .tup h2 (.cons (.str s) (.cons (.int z) .nil)), ?_, ?_, ?_⟩
  · simp [SeqAt.shaped, PyData.canLay0, PyData.canLayAll0, PyData.depth, PyData.depthAll, hs]
  · simp [SeqAt.shaped, PyData.canLay0, PyData.canLayAll0, PyData.depth, PyData.depthAll, hs]
  · rw [show PyData.eqv (.tuple [.str s, .int z]) (.tuple [.str s, .int z]) = true by simp [PyData.eqv, PyData.eqvAll]]
    exact q
def spSameW (C : Addr) : Sp := fun vs H Q _ => ∃ (x q : Addr) (as : List Addr) (rows : List (List Int)) (e o : Int), vs = [.ref x, .ref q, .int e, .int o] ∧ WebAt C H x rows e o ∧ H q = some (.lst (as.map V.ref)) ∧ RowsAt H as rows ∧ rows.length ≤ 400 ∧ 1 ≤ e ∧ e ≤ 60 ∧ ∀ H', Same H H' → Q (.bl true) H'
end L2

namespace L2
open PySem PySem.Spec PyProof.Rows
/-! ## webs with one row changed -/
theorem GoodW.more {rows : List (List Int)} {e o : Int} (h : GoodW rows e o) (he : e < 60) : GoodW rows (e + 1) o := by
  refine ⟨by have := h.e1; omega, by omega, h.len, fun i row hi => ?_, by have := h.o1; omega, h.o2, h.cert⟩
  obtain ⟨q, r, e1, h1, h2, h3, h4⟩ := h.row i row hi
  exact ⟨q, r, e1, h1, h2, h3, fun t m => by obtain ⟨x, y, z⟩ := h4 t m; exact ⟨by omega, y, z⟩⟩
theorem GoodW.from {rows : List (List Int)} {e o : Int} {o' : Int} (h : GoodW rows e o) (h1 : -e ≤ o') (h2 : o' < rows.length) : GoodW rows e o' := ⟨h.e1, h.e2, h.len, h.row, h1, h2, h.cert⟩
theorem GoodW.put {rows : List (List Int)} {e o : Int} {k : Nat} {q q' : Int} {r r' : List Int} (h : GoodW rows e o) (hk : rows[k]? = some (q :: r)) (hl : r'.length = 2 ∨ r'.length = 3) (q0 : 0 ≤ q') (q1 : q' < 48)
    (hq : q' = q ∨ ∀ (i : Nat) (z : Int) (s : List Int), rows[i]? = some (z :: s) → z ≠ q') (hr : ∀ t ∈ r', (0 ≤ t → t ∈ r) ∧ -e ≤ t) : GoodW (rows.set k (q' :: r')) e o := by
  obtain ⟨A, hA⟩ := h.cert
  have hkl : k < rows.length := (List.getElem?_eq_some_iff.mp hk).1
  have tok : ∀ t ∈ r', -e ≤ t ∧ t < (rows.length : Int) ∧ ¬ (0 ≤ t ∧ t ≤ k) := fun t m => by
    obtain ⟨h1, h2⟩ := hr t m
    by_cases t0 : 0 ≤ t
    · obtain ⟨q2, r2, e2, _, _, _, h3⟩ := h.row k _ hk
      obtain ⟨rfl, rfl⟩ := List.cons.inj e2
      exact h3 t (h1 t0)
    · exact ⟨h2, by omega, by omega⟩
  refine ⟨h.e1, h.e2, by rw [List.length_set]; exact h.len, fun i row hi => ?_, h.o1, by rw [List.length_set]; exact h.o2, ?_⟩
  · rw [List.length_set]
    by_cases hik : k = i
    · subst hik
      rw [List.getElem?_set_self hkl] at hi
      obtain rfl := Option.some.inj hi
      exact ⟨q', r', rfl, hl, q0, q1, tok⟩
    · rw [List.getElem?_set_ne hik] at hi
      exact h.row i row hi
  · rcases hq with rfl | hq
    · refine ⟨A, fun i z s hi => ?_⟩
      by_cases hik : k = i
      · subst hik
        rw [List.getElem?_set_self hkl] at hi
        obtain ⟨rfl, rfl⟩ := List.cons.inj (Option.some.inj hi)
        obtain ⟨a1, a2⟩ := hA k _ _ hk
        exact ⟨a1, fun t m t0 => a2 t ((hr t m).1 t0) t0⟩
      · rw [List.getElem?_set_ne hik] at hi
        exact hA i z s hi
    · refine ⟨fun i z => (A i z ∧ z ≠ q') ∨ (z = q' ∧ i ≤ k), fun i z s hi => ?_⟩
      by_cases hik : k = i
      · subst hik
        rw [List.getElem?_set_self hkl] at hi
        obtain ⟨rfl, rfl⟩ := List.cons.inj (Option.some.inj hi)
        refine ⟨.inr ⟨rfl, Nat.le_refl _⟩, fun t m t0 => ?_⟩
        have ht := (tok t m).2.2
        have tk : k < t.toNat := by omega
        refine ⟨fun hh => ?_, fun y hy => ?_⟩
        · rcases hh with ⟨_, h2⟩ | ⟨_, h2⟩
          · exact h2 rfl
          · omega
        · rcases hy with ⟨h1, h2⟩ | ⟨_, h2⟩
          · exact .inl ⟨((hA k _ _ hk).2 t ((hr t m).1 t0) t0).2 y h1, h2⟩
          · omega
      · rw [List.getElem?_set_ne hik] at hi
        have zq := hq i z s hi
        obtain ⟨a1, a2⟩ := hA i z s hi
        refine ⟨.inl ⟨a1, zq⟩, fun t m t0 => ?_⟩
        obtain ⟨b1, b2⟩ := a2 t m t0
        have ht : ¬ (0 ≤ t ∧ t ≤ i) := by
          obtain ⟨q2, r2, e2, _, _, _, h3⟩ := h.row i _ hi
          obtain ⟨rfl, rfl⟩ := List.cons.inj e2
          exact (h3 t m).2.2
        refine ⟨fun hh => ?_, fun y hy => ?_⟩
        · rcases hh with ⟨h1, _⟩ | ⟨h1, _⟩
          · exact b1 h1
          · exact zq h1
        · rcases hy with ⟨h1, h2⟩ | ⟨h1, h2⟩
          · exact .inl ⟨b2 y h1, h2⟩
          · exact .inr ⟨h1, by omega⟩
theorem GoodW.snoc {rows : List (List Int)} {e o q : Int} (h : GoodW rows e o) (hl : rows.length < 400) (q0 : 0 ≤ q) (q1 : q < 48) : GoodW (rows ++ [[q, -1, -1]]) e o := by
  obtain ⟨A, hA⟩ := h.cert
  have e1 := h.e1
  have ll : (rows ++ [[q, -1, -1]]).length = rows.length + 1 := by rw [List.length_append]; rfl
  have cs : ∀ {i : Nat} {row : List Int}, (rows ++ [[q, -1, -1]])[i]? = some row → (i < rows.length ∧ rows[i]? = some row) ∨ (i = rows.length ∧ row = [q, -1, -1]) := fun {i row} hi => by
    by_cases hj : i < rows.length
    · rw [List.getElem?_append_left hj] at hi
      exact .inl ⟨hj, hi⟩
    · rw [List.getElem?_append_right (by omega)] at hi
      have h0 : i - rows.length = 0 := by
        have := (List.getElem?_eq_some_iff.mp hi).1
        rw [List.length_singleton] at this
        omega
      rw [h0] at hi
      exact .inr ⟨by omega, (Option.some.inj hi).symm⟩
  refine ⟨e1, h.e2, by rw [ll]; omega, fun i row hi => ?_, h.o1, by have := h.o2; rw [ll]; omega, fun i z => if i < rows.length then A i z else z = q, fun i z s hi => ?_⟩
  · rw [ll]
    rcases cs hi with ⟨_, hi⟩ | ⟨rfl, rfl⟩
    · obtain ⟨q2, r2, e2, h1, h2, h3, h4⟩ := h.row i row hi
      exact ⟨q2, r2, e2, h1, h2, h3, fun t m => by obtain ⟨x, y, z⟩ := h4 t m; exact ⟨x, by omega, z⟩⟩
    · exact ⟨q, [-1, -1], rfl, .inl rfl, q0, q1, fun t m => by
        have : t = -1 := by simpa using m
        omega⟩
  · show (if i < rows.length then A i z else z = q) ∧ ∀ t, t ∈ s → 0 ≤ t → ¬ (if t.toNat < rows.length then A t.toNat z else z = q) ∧ ∀ y, (if t.toNat < rows.length then A t.toNat y else y = q) → (if i < rows.length then A i y else y = q)
    rcases cs hi with ⟨hil, hi⟩ | ⟨rfl, hi2⟩
    · obtain ⟨a1, a2⟩ := hA i z s hi
      simp only [if_pos hil]
      refine ⟨a1, fun t m t0 => ?_⟩
      have ht : t < rows.length := by
        obtain ⟨q2, r2, e2, _, _, _, h3⟩ := h.row i _ hi
        obtain ⟨rfl, rfl⟩ := List.cons.inj e2
        exact (h3 t m).2.1
      simp only [if_pos (show t.toNat < rows.length by omega)]
      exact a2 t m t0
    · obtain ⟨rfl, rfl⟩ := List.cons.inj hi2
      simp only [if_neg (Nat.lt_irrefl _)]
      refine ⟨trivial, fun t m t0 => ?_⟩
      have : t = -1 := by simpa using m
      omega
theorem set_eq_iff {rows : List (List Int)} {k : Nat} {row row' : List Int} (hk : rows[k]? = some row) : rows = rows.set k row' ↔ row' = row := by
  have hkl : k < rows.length := (List.getElem?_eq_some_iff.mp hk).1
  constructor
  · intro h
    have h2 : (rows.set k row')[k]? = some row' := List.getElem?_set_self hkl
    rw [← h, hk] at h2
    exact (Option.some.inj h2).symm
  · rintro rfl
    refine List.ext_getElem? fun i => ?_
    by_cases hik : k = i
    · subst hik; rw [List.getElem?_set_self hkl, hk]
    · rw [List.getElem?_set_ne hik]
theorem cut_set {α : Type} (l : List α) {k : Nat} (hk : k < l.length) (x : α) : l.take k ++ [x] ++ l.drop (k + 1) = l.set k x := by
  rw [List.set_eq_take_append_cons_drop, if_pos hk, List.append_assoc]
  rfl
/-- a comprehension within one: nothing free in it -/
theorem blkOk_any {N : List Str} {sc0 sc scope : Scope} {own : List (Str × Nat)} (h : blkC N sc0 scope own = true) (hf : (scope.names.all fun y => match y.2 with | NameKind.free => false | _ => true) = true) : BlkOk N sc scope own :=
  let b := blkOk_by h
  have hfree : ∀ y ∈ scope.names, y.2 = NameKind.free → List.lookup y.1 sc.names = some NameKind.cell ∨ List.lookup y.1 sc.names = some NameKind.free := fun y hy e => by
    have := List.all_eq_true.mp hf y hy
    rw [e] at this
    cases this
  ⟨b.kind, b.uniq, b.ix, hfree, b.own⟩
end L2

namespace L2
open PySem PySem.Spec PyProof.Rows
/-! ## x in t, t a tuple of data -/
def rInDT (K : PySem.W.Frag) : R2 := fun x y H Q => ∃ d ds, Dp K H x d ∧ Dp K H y (.tuple ds) ∧ SeqAt.shaped d = true ∧ SeqAt.shaped (.tuple ds) = true ∧ Q (.bl (ds.any fun z => PyData.eqv z d)) H
def rNotInDT (K : PySem.W.Frag) : R2 := fun x y H Q => ∃ d ds, Dp K H x d ∧ Dp K H y (.tuple ds) ∧ SeqAt.shaped d = true ∧ SeqAt.shaped (.tuple ds) = true ∧ Q (.bl (!ds.any fun z => PyData.eqv z d)) H
theorem Room.units65 {k : Nat} {A : Around} (h : Room k A) : A.units + 65 < cLine := by
  have := h.un
  omega
theorem op_inDT {X : Cx} (hu : X.A.units + 65 < cLine) : OpR X (compareOp .In) (rInDT X.K) := by
  intro pins s σ H x y v u Q I rx ry h
  obtain ⟨d, ds, hd, he, sd, se, q⟩ := h
  obtain ⟨as, r1⟩ := Dp.reads I d x v hd rx
  obtain ⟨bs, r2⟩ := Dp.reads I (.tuple ds) y u he ry
  exact SeqAt.in_tuple_reads r2 r1 (SeqAt.canLay_of_shaped se) (SeqAt.canLay_of_shaped sd) (room_in_shaped sd hu) ⟨.bl _, H, I, rfl, q⟩
theorem op_notInDT {X : Cx} (hu : X.A.units + 65 < cLine) : OpR X (compareOp .NotIn) (rNotInDT X.K) := by
  intro pins s σ H x y v u Q I rx ry h
  obtain ⟨d, ds, hd, he, sd, se, q⟩ := h
  obtain ⟨as, r1⟩ := Dp.reads I d x v hd rx
  obtain ⟨bs, r2⟩ := Dp.reads I (.tuple ds) y u he ry
  exact SeqAt.notIn_tuple_reads r2 r1 (SeqAt.canLay_of_shaped se) (SeqAt.canLay_of_shaped sd) (room_in_shaped sd hu) ⟨.bl _, H, I, rfl, q⟩
theorem ixN_nat {n j : Nat} (h : j < n) : ixN n (j : Int) = some j := by
  unfold ixN
  simp
  omega
/-! ## the drawing of the later stages: a list of the cells and a place -/
def Stt (p c : Addr) (H : Hp) : Prop := p ≠ c ∧ ∃ (ns : List Int) (i : Int), H p = some (.lst [.ref c, .int i]) ∧ H c = some (.lst (ns.map V.int))
def Fr (p c : Addr) (H H' : Hp) : Prop := (∀ b o, (∀ xs, o ≠ .lst xs) → H b = some o → H' b = some o) ∧ ∀ b xs, b ≠ p → b ≠ c → H b = some (.lst xs) → H' b = some (.lst xs)
theorem Fr.refl (p c : Addr) (H : Hp) : Fr p c H H := ⟨fun _ _ _ h => h, fun _ _ _ _ h => h⟩
theorem Fr.trans {p c : Addr} {H H1 H2 : Hp} (a : Fr p c H H1) (b : Fr p c H1 H2) : Fr p c H H2 := ⟨fun x o n h => b.1 x o n (a.1 x o n h), fun x xs n1 n2 h => b.2 x xs n1 n2 (a.2 x xs n1 n2 h)⟩
theorem Same.fr {p c : Addr} {H H' : Hp} (e : Same H H') : Fr p c H H' := ⟨fun x o _ h => e x o h, fun x xs _ _ h => e x _ h⟩
theorem Fr.tup {p c : Addr} {H H' : Hp} {x : Addr} {xs : List V} (e : Fr p c H H') (h : H x = some (.tup xs)) : H' x = some (.tup xs) := e.1 _ _ (fun _ z => by cases z) h
theorem Fr.ins {p c : Addr} {H H' : Hp} {x C dx : Addr} {xs : List (Str × V)} (e : Fr p c H H') (h : H x = some (.ins C dx xs)) : H' x = some (.ins C dx xs) := e.1 _ _ (fun _ z => by cases z) h
theorem Stt.same {p c : Addr} {H H' : Hp} (h : Stt p c H) (e : Same H H') : Stt p c H' := let ⟨n, ns, i, a, b⟩ := h; ⟨n, ns, i, e _ _ a, e _ _ b⟩
theorem Stt.upd {p c q : Addr} {H : Hp} {o : HO} (h : Stt p c H) (e : H q = none) : Stt p c (upd H q o) := h.same (same_upd e)
theorem Stt.mut {p c q : Addr} {H : Hp} {o : HO} (h : Stt p c H) (n1 : q ≠ p) (n2 : q ≠ c) : Stt p c (L2.upd H q o) := let ⟨n, ns, i, a, b⟩ := h; ⟨n, ns, i, by rw [upd_ne n1.symm]; exact a, by rw [upd_ne n2.symm]; exact b⟩
theorem Stt.ne {p c q : Addr} {H : Hp} (h : Stt p c H) (e : H q = none) : q ≠ p ∧ q ≠ c := let ⟨n, ns, i, a, b⟩ := h; ⟨(ne_of_none a e).symm, (ne_of_none b e).symm⟩
theorem Fr.free {p c q : Addr} {H H' : Hp} (e : Fr p c H H') (s : Stt p c H') (h : H' q = none) : H q = none := by
  cases hq : H q with
  | none => rfl
  | some o =>
    exfalso
    by_cases hl : ∃ xs, o = .lst xs
    · obtain ⟨xs, rfl⟩ := hl
      obtain ⟨n1, n2⟩ := s.ne h
      have := e.2 q xs n1 n2 hq
      rw [h] at this
      cases this
    · have := e.1 q o (fun xs z => hl ⟨xs, z⟩) hq
      rw [h] at this
      cases this
theorem Fr.mut {p c q : Addr} {H H' : Hp} {o : HO} (e : Fr p c H H') (n : H q = none) : Fr p c H (L2.upd H' q o) :=
  ⟨fun b u nl h => by rw [upd_ne (ne_of_none h n)]; exact e.1 b u nl h, fun b xs n1 n2 h => by rw [upd_ne (ne_of_none h n)]; exact e.2 b xs n1 n2 h⟩
theorem Fr.upd {p c q : Addr} {H H' : Hp} {o : HO} (e : Fr p c H H') (n : H' q = none) : Fr p c H (L2.upd H' q o) := e.trans (same_upd n).fr
def spDr (K : PySem.W.Frag) : Sp := fun vs H Q _ => ∃ (p c : Addr) (lim : Int), vs = [.ref p, .int lim] ∧ Stt p c H ∧ 0 < lim ∧ lim < 2 ^ 200 ∧ ∀ H' r, Fr p c H H' → Stt p c H' → 0 ≤ r → r < lim → Q (.int r) H'
end L2

namespace L2
open PySem PySem.Spec PyProof.Rows
/-! ## operators of an own object and a whole number -/
section
variable {X : Cx} {n : Nat} {CX : CXT} {C f : Addr} {fd : FuncData} {ps : List Str} {sp : Sp} {E : XK} {pins : List (Addr × Obj)} {σ : St} {H : Hp} {s : Shared}
def rOwnI (C : Addr) (sp : Sp) (E : XK) : R2 := fun x y H Q => ∃ a dx fs i, x = .ref a ∧ y = .int i ∧ H a = some (.ins C dx fs) ∧ sp [.ref a, .int i] H Q E
theorem op_ownI {op : Operator} {fo ro rc : Option Value} (F : FnOk X.prog X.w X.K X.mg X.base CX n f fd ps sp) (hr : Room n X.A) (hs : PySem.W.findIn X.K (.ref C) (PySem.dunder op.info.2) = some (some (.ref f))) (hf : PySem.W.isFn X.K (.ref f) = true)
    (hc : PySem.W.selfFirst X.K C = true) (hrr : PySem.W.findIn X.K (.ref C) (dunderR op.info.2) = some rc) (hp : rc = none ∨ ∃ g : Addr, rc = some (.ref g)) (h1 : PySem.W.findIn X.K (.type "int") (PySem.dunder op.info.2) = some fo) (h2 : PySem.W.findIn X.K (.type "int") (dunderR op.info.2) = some ro)
    (hsub : PySem.W.subIn X.K (.type "int") (.ref C) = some false) (hb : Binds X.K fd ps []) (hx : Passes CX X E) : OpR X (binaryOp op) (rOwnI C sp E) := by
  intro pins s σ H x y v u Q I rx ry h
  obtain ⟨a, dx, fs, i, rfl, rfl, ha, h⟩ := h
  cases rx
  obtain ⟨t, rfl⟩ := ry
  obtain ⟨mA, J, _⟩ := ins_get I.hok ha
  obtain ⟨od, J, _⟩ := J.look
  obtain ⟨m, hF⟩ := I.fr
  refine PySem.W.ksp_binT hF I.ok.mod.kin J rfl hc hs hf hrr hp h1 h2 hsub ?_
  exact thn (run_own (vs := [.ref a, .int i]) F ⟨hr, rfl⟩ hb hx I (.cons rfl (.cons ⟨t, rfl⟩ .nil)) h) fun u s' q => back_ep q
end
end L2
namespace PySem
open PySem PySem.Spec PyProof.Rows L2
/-- the whole number's own operator, asked about another thing -/
theorem meets_intBin {name : String} {f : Int → Int → Sem Fin} {i : Int} {t : Tok} {x : Addr} :
    Meets (Builtin.Int.intBinary name f (reflected := false) ⟨[.int i t, .ref x], []⟩) fun A R s => (∃ o, s.heap.get? x = some o ∧ ∀ j u, o.data ≠ .prim (.int j u)) ∧ R (.ok (.ret .notImplemented)) s := by
  intro prog w A R s ⟨⟨o, ho, hd⟩, hR⟩
  unfold Builtin.Int.intBinary
  refine wpAny_bind (wpAny_of_eq (a := ((Value.int i t, [Value.ref x]) : Value × List Value)) rfl ?_)
  refine wpAny_bind (wpAny_of_eq (a := i) rfl ?_)
  refine wpAny_bind (m := asInt? (.ref x)) ?_
  unfold asInt?
  refine wpAny_bind (wpAny_load' ho ?_)
  obtain ⟨oc, odi, data, osl⟩ := o
  have fin : ∀ g : Option Int → Sem Fin, g none = (do rule "int.binary.not-an-int"; ret .notImplemented) → wpAny (model prog w) A.in1 (pure none : Sem (Option Int)) (fun a s' => wpAny (model prog w) A.in1 (g a) (fun fin s' => match fin with
        | Fin.done f => R (Except.ok f) s'
        | Fin.again c' => c'.quiet = true ∧ codeAny (model prog w) A c' R s') (fun e s' => R (Except.error e) s') s') (fun e s' => R (Except.error e) s') s := fun g hg => by
    refine wpAny_pure ?_
    rw [hg]
    exact wpAny_bind (wpAny_rule (wpAny_pure hR))
  cases data with
  | prim v => cases v <;> first | exact fin _ rfl | exact (hd _ _ rfl).elim
  | _ => exact fin _ rfl
end PySem
namespace PySem.W
open PySem PySem.Spec PyProof.Rows L2
section
variable {prog : Program} {w : World} {M : Model} {A : Around} {E : Value → Shared → Prop} {s : Shared} {K : Frag} {x C L f f0 : Addr} {h₀ : Heap} {m : Str → Option Value} {ox : Obj} {od : Option Obj} {nm T : String}
theorem try_int {id : String} {name : Str} {i : Int} {t : Tok} {B : Builtin} {Q : Option Value → Shared → Prop} (slot : Slot "int" name id) (entry : entryFor table id = some B) (args : argsOk id ⟨[.int i t, .ref x], []⟩)
    (me : Meets (B ⟨[.int i t, .ref x], []⟩) fun A R s => (∃ o, s.heap.get? x = some o ∧ ∀ j u, o.data ≠ .prim (.int j u)) ∧ R (.ok (.ret .notImplemented)) s)
    (hx : s.heap.get? x = some ox) (hd : ∀ j u, ox.data ≠ .prim (.int j u)) (q : Q none s) : wpAny (model prog w) A (tryMethod (.int i t) name (.ref x)) Q E s := by
  unfold tryMethod callSpecial?
  refine wpAny_bind ?_
  refine wpAny_bind (wpAny_of_eq (a := some (.builtin id)) (show specialOf (.int i t) name = pure (some (.builtin id)) from slot.lookup) ?_)
  refine wpAny_holding ?_
  refine wpAny_bind (wpAny_of_eq (a := ((Value.builtin id, [Value.int i t]) : Value × List Value)) (slot.bind _) ?_)
  refine wpAny_bind (call_meets slot (typeIs_int s i t) entry args me ⟨⟨ox, hx, hd⟩, ?_⟩)
  exact wpAny_pure (wpAny_pure q)
theorem ksp_binR {op : Operator} {i : Int} {t : Tok} {id : String} {B : Builtin} {Q : Value → Shared → Prop} (F : Fr h₀ L s.heap m) (X₀ : K.In h₀) (I : InstAt s.heap x ox C od) (hd : ∀ j u, ox.data ≠ .prim (.int j u)) (hc : selfFirst K C = true)
    (hs : findIn K (.ref C) (PySem.dunder op.info.2) = some (some (.ref f0))) (hr : findIn K (.ref C) (dunderR op.info.2) = some (some (.ref f))) (hf : isFn K (.ref f) = true)
    (fills : fillsNumberSlot (.type "int") op.info.2 = pure true) (slot : Slot "int" (PySem.dunder op.info.2) id) (entry : entryFor table id = some B) (args : argsOk id ⟨[.int i t, .ref x], []⟩)
    (me : Meets (B ⟨[.int i t, .ref x], []⟩) fun A R s => (∃ o, s.heap.get? x = some o ∧ ∀ j u, o.data ≠ .prim (.int j u)) ∧ R (.ok (.ret .notImplemented)) s)
    (hsub : subIn K (.ref C) (.type "int") = some false)
    (h : wpAny (model prog w) A (call (.ref f) [.ref x, .int i t]) (CmpBack Q) E s) : wpAny (model prog w) A (binaryOp op (.int i t) (.ref x)) Q E s := by
  have X := X₀.keeps F.keep
  obtain ⟨cd, rest, hcd, hm⟩ := ksp_first hc
  rcases hi : op.info with ⟨sym, nm'⟩
  rw [hi] at hs hr fills slot
  dsimp only at hs hr fills slot
  have hxx := I.at_
  have two := ksp_try (b := .int i t) X I hr hf h
  obtain ⟨hh, g, d, tt, os⟩ := s
  have one : ∀ {Q : Option Value → Shared → Prop}, Q none ⟨hh, g, d, tt, os⟩ → wpAny (model prog w) A (tryMethod (.int i t) (PySem.dunder nm') (.ref x)) Q E ⟨hh, g, d, tt, os⟩ := fun q => try_int slot entry args me hxx hd q
  have L1 : Looks (model prog w) hh (typeOf (.int i t)) (.type "int") := Looks.of_pure rfl
  have L2 : Looks (model prog w) hh (typeOf (.ref x)) (.ref C) := I.type
  have L3 : Looks (model prog w) hh (fillsNumberSlot (.type "int") nm') true := Looks.of_pure fills
  have L4 : Looks (model prog w) hh (fillsNumberSlot (.ref C) nm') true := fills_K X hcd hm hs
  have L5 : Looks (model prog w) hh (isSubtype (.ref C) (.type "int")) false := looks_subIn X hsub
  have L7 : Looks (model prog w) hh (numberSlotInPython (.type "int") nm') false := Looks.of_pure rfl
  have hne : (Value.type "int" == Value.ref C) = false := Bool.eq_false_iff.mpr fun q => by cases beq_iff_eq.mp q
  simp only [binaryOp, hi]
  refine wpAny_holding (wpAny_bind ?_)
  unfold binaryOp1
  refine wpAny_bind (L1.at (wpAny_bind (L2.at (wpAny_bind (L3.at ?_)))))
  simp only [hne, Bool.false_eq_true, if_false]
  ksp_lk
  refine one ?_
  ksp_lk
  refine wpAny_mono two (fun r s' hr' => ?_) fun _ _ e => e
  obtain ⟨v, rfl, hq⟩ := hr'
  ksp_lk
  exact hq
end
end PySem.W
namespace L2
open PySem PySem.Spec PyProof.Rows
section
variable {X : Cx} {n : Nat} {CX : CXT} {C f f0 : Addr} {fd : FuncData} {ps : List Str} {sp : Sp} {E : XK} {pins : List (Addr × Obj)} {σ : St} {H : Hp} {s : Shared}
/-- a whole number and an own object: the own reflected method -/
def rIOwn (C : Addr) (sp : Sp) (E : XK) : R2 := fun x y H Q => ∃ a dx fs i, x = .int i ∧ y = .ref a ∧ H a = some (.ins C dx fs) ∧ sp [.ref a, .int i] H Q E
theorem op_IOwn {op : Operator} {id : String} {B : Builtin} (F : FnOk X.prog X.w X.K X.mg X.base CX n f fd ps sp) (hr : Room n X.A) (hs : PySem.W.findIn X.K (.ref C) (PySem.dunder op.info.2) = some (some (.ref f0))) (hrr : PySem.W.findIn X.K (.ref C) (dunderR op.info.2) = some (some (.ref f))) (hf : PySem.W.isFn X.K (.ref f) = true)
    (hc : PySem.W.selfFirst X.K C = true) (fills : fillsNumberSlot (.type "int") op.info.2 = pure true) (slot : Slot "int" (PySem.dunder op.info.2) id) (entry : entryFor table id = some B) (args : ∀ a b : Value, argsOk id ⟨[a, b], []⟩)
    (me : ∀ (i : Int) (t : Tok) (x : Addr), Meets (B ⟨[.int i t, .ref x], []⟩) fun A R s => (∃ o, s.heap.get? x = some o ∧ ∀ j u, o.data ≠ .prim (.int j u)) ∧ R (.ok (.ret .notImplemented)) s)
    (hsub : PySem.W.subIn X.K (.ref C) (.type "int") = some false) (hb : Binds X.K fd ps []) (hx : Passes CX X E) : OpR X (binaryOp op) (rIOwn C sp E) := by
  intro pins s σ H x y v u Q I rx ry h
  obtain ⟨a, dx, fs, i, rfl, rfl, ha, h⟩ := h
  obtain ⟨t, rfl⟩ := rx
  cases ry
  obtain ⟨mA, J, _⟩ := ins_get I.hok ha
  obtain ⟨od, J, _⟩ := J.look
  obtain ⟨m, hF⟩ := I.fr
  refine PySem.W.ksp_binR hF I.ok.mod.kin J (fun j u h => by cases h) hc hs hrr hf fills slot entry (args _ _) (me i t a) hsub ?_
  exact thn (run_own (vs := [.ref a, .int i]) F ⟨hr, rfl⟩ hb hx I (.cons rfl (.cons ⟨t, rfl⟩ .nil)) h) fun u s' q => back_ep q
def rNegOwn (C : Addr) (sp : Sp) (E : XK) : V → Hp → VK → Prop := fun x H Q => ∃ a dx fs, x = .ref a ∧ H a = some (.ins C dx fs) ∧ sp [.ref a] H Q E
theorem un_negOwn (F : FnOk X.prog X.w X.K X.mg X.base CX n f fd ps sp) (hr : Room n X.A) (hs : PySem.W.findIn X.K (.ref C) "__neg__" = some (some (.ref f))) (hf : PySem.W.isFn X.K (.ref f) = true)
    (hb : Binds X.K fd ps []) (hx : Passes CX X E) : UnR X (unaryOp .USub) (rNegOwn C sp E) := by
  intro pins s σ H x v Q I rx h
  obtain ⟨a, dx, fs, rfl, ha, h⟩ := h
  cases rx
  obtain ⟨mA, J, _⟩ := ins_get I.hok ha
  obtain ⟨od, J, _⟩ := J.look
  obtain ⟨m, hF⟩ := I.fr
  exact PySem.W.ksp_neg hF I.ok.mod.kin J hs hf (run_own (vs := [.ref a]) F ⟨hr, rfl⟩ hb hx I (.cons rfl .nil) h)
end
section
variable {X : Cx} {n : Nat} {CX : CXT} {C f f0 : Addr} {fd : FuncData} {ps : List Str} {sp : Sp} {E : XK}
theorem op_addIOwn (F : FnOk X.prog X.w X.K X.mg X.base CX n f fd ps sp) (hr : Room n X.A) (hs : PySem.W.findIn X.K (.ref C) "__add__" = some (some (.ref f0))) (hrr : PySem.W.findIn X.K (.ref C) "__radd__" = some (some (.ref f))) (hf : PySem.W.isFn X.K (.ref f) = true)
    (hc : PySem.W.selfFirst X.K C = true) (hsub : PySem.W.subIn X.K (.ref C) (.type "int") = some false) (hb : Binds X.K fd ps []) (hx : Passes CX X E) : OpR X (binaryOp .Add) (rIOwn C sp E) :=
  op_IOwn F hr hs hrr hf hc PySem.F.fills_int_add PySem.F.slot_int_add PySem.F.entry_int_add PySem.F.args_int_add_2 (fun _ _ _ => meets_intBin) hsub hb hx
theorem op_subIOwn (F : FnOk X.prog X.w X.K X.mg X.base CX n f fd ps sp) (hr : Room n X.A) (hs : PySem.W.findIn X.K (.ref C) "__sub__" = some (some (.ref f0))) (hrr : PySem.W.findIn X.K (.ref C) "__rsub__" = some (some (.ref f))) (hf : PySem.W.isFn X.K (.ref f) = true)
    (hc : PySem.W.selfFirst X.K C = true) (hsub : PySem.W.subIn X.K (.ref C) (.type "int") = some false) (hb : Binds X.K fd ps []) (hx : Passes CX X E) : OpR X (binaryOp .Sub) (rIOwn C sp E) :=
  op_IOwn F hr hs hrr hf hc PySem.F.fills_int_sub PySem.F.slot_int_sub PySem.F.entry_int_sub PySem.F.args_int_sub_2 (fun _ _ _ => meets_intBin) hsub hb hx
theorem op_mulIOwn (F : FnOk X.prog X.w X.K X.mg X.base CX n f fd ps sp) (hr : Room n X.A) (hs : PySem.W.findIn X.K (.ref C) "__mul__" = some (some (.ref f0))) (hrr : PySem.W.findIn X.K (.ref C) "__rmul__" = some (some (.ref f))) (hf : PySem.W.isFn X.K (.ref f) = true)
    (hc : PySem.W.selfFirst X.K C = true) (hsub : PySem.W.subIn X.K (.ref C) (.type "int") = some false) (hb : Binds X.K fd ps []) (hx : Passes CX X E) : OpR X (binaryOp .Mult) (rIOwn C sp E) :=
  op_IOwn F hr hs hrr hf hc PySem.F.fills_int_mul PySem.F.slot_int_mul PySem.F.entry_int_mul PySem.F.args_int_mul_2 (fun _ _ _ => meets_intBin) hsub hb hx
end
end L2
namespace PySem.W
open PySem PySem.Spec PyProof.Rows L2
section
variable {prog : Program} {w : World} {M : Model} {A : Around} {E : Value → Shared → Prop} {s : Shared} {K : Frag} {x C L f f0 : Addr} {h₀ : Heap} {m : Str → Option Value} {ox : Obj} {od : Option Obj}
theorem ifBound_int {id : String} {name : Str} {i : Int} {t : Tok} {Q : Option Value → Shared → Prop} (slot : Slot "int" name id)
    (h : wpAny M A (call (.builtin id) [.int i t, .ref x]) (fun v => Q (some v)) E s) : wpAny M A (callSpecialIfBound? (.int i t) name [.ref x]) Q E s := by
  simp only [callSpecialIfBound?, bindSpecialIfBound?]
  refine wpAny_holding (wpAny_bind (wpAny_bind (wpAny_of_eq (a := some (.builtin id)) (show specialOf (.int i t) name = pure (some (.builtin id)) from slot.lookup) ?_)))
  refine wpAny_bind (wpAny_askSetting (wpAny_ite ?_))
  have fin : wpAny M A (call (.builtin id) ([.int i t] ++ [.ref x]) >>= fun v => pure (some v)) Q E s := wpAny_bind (wpAny_mono h (fun v s' h' => wpAny_pure h') fun _ _ h' => h')
  split
  · exact wpAny_bind (wpAny_of_eq (slot.bind _) (wpAny_pure (by exact fin)))
  · exact wpAny_tryCatch (wpAny_bind (wpAny_of_eq (slot.bind _) (wpAny_pure (by exact fin))))
theorem tryc_int {id : String} {name : Str} {i : Int} {t : Tok} {B : Builtin} {Q : Option Value → Shared → Prop} (slot : Slot "int" name id) (entry : entryFor table id = some B) (args : argsOk id ⟨[.int i t, .ref x], []⟩)
    (me : Meets (B ⟨[.int i t, .ref x], []⟩) fun A R s => (∃ o, s.heap.get? x = some o ∧ ∀ j u, o.data ≠ .prim (.int j u)) ∧ R (.ok (.ret .notImplemented)) s)
    (hx : s.heap.get? x = some ox) (hd : ∀ j u, ox.data ≠ .prim (.int j u)) (q : Q none s) : wpAny (model prog w) A (tryCompare (.int i t) name (.ref x)) Q E s := by
  unfold tryCompare
  refine wpAny_bind (ifBound_int slot ?_)
  refine call_meets slot (typeIs_int s i t) entry args me ⟨⟨ox, hx, hd⟩, ?_⟩
  exact wpAny_pure q
theorem ksp_cmpR {op : CmpOp} {i : Int} {t : Tok} {id : String} {B : Builtin} {Q : Value → Shared → Prop} (hu : A.units < cLine) (F : Fr h₀ L s.heap m) (X₀ : K.In h₀) (I : InstAt s.heap x ox C od) (hd : ∀ j u, ox.data ≠ .prim (.int j u))
    (hr : findIn K (.ref C) (cmpInfo op).2.2 = some (some (.ref f))) (hf : isFn K (.ref f) = true) (slot : Slot "int" (cmpInfo op).2.1 id) (entry : entryFor table id = some B) (args : argsOk id ⟨[.int i t, .ref x], []⟩)
    (me : Meets (B ⟨[.int i t, .ref x], []⟩) fun A R s => (∃ o, s.heap.get? x = some o ∧ ∀ j u, o.data ≠ .prim (.int j u)) ∧ R (.ok (.ret .notImplemented)) s)
    (hsub : subIn K (.ref C) (.type "int") = some false)
    (h : wpAny (model prog w) A (call (.ref f) [.ref x, .int i t]) (CmpBack Q) E s) : wpAny (model prog w) A (richCompare op (.int i t) (.ref x)) Q E s := by
  have X := X₀.keeps F.keep
  have two : wpAny (model prog w) A (tryCompare (.ref x) (cmpInfo op).2.2 (.int i t)) (fun r s' => ∃ v, r = some v ∧ Q v s') E s := by
    unfold tryCompare
    refine wpAny_bind (ifBound_K X I hr hf (wpAny_mono h (fun v s' hv => ?_) fun _ _ e => e))
    cases v <;> first | exact hv.elim | exact wpAny_pure ⟨_, rfl, hv⟩
  have hxx := I.at_
  have hne : (Value.type "int" != Value.ref C) = true := by rfl
  unfold richCompare
  have h1 : oneThing? op (.int i t) (.ref x) = none := by cases op <;> rfl
  simp only [h1]
  refine wpAny_holding (wpAny_bind (wpAny_cRoomFor hu ?_))
  refine wpAny_bind (wpAny_of_eq (a := Value.type "int") rfl ?_)
  refine wpAny_bind (I.type.here ?_)
  rw [if_pos hne]
  refine wpAny_bind ((looks_subIn X hsub).here ?_)
  simp only [Bool.false_eq_true, if_false]
  refine wpAny_bind (tryc_int slot entry args me hxx hd ?_)
  refine wpAny_bind (wpAny_mono two (fun r s' z => ?_) fun _ _ e => e)
  obtain ⟨v, rfl, hq⟩ := z
  exact wpAny_pure hq
end
end PySem.W
namespace L2
open PySem PySem.Spec PyProof.Rows
section
variable {X : Cx} {n : Nat} {CX : CXT} {C f : Addr} {fd : FuncData} {ps : List Str} {sp : Sp} {E : XK}
/-- own object < whole number .. -/
theorem cmp_ownI {op : CmpOp} (F : FnOk X.prog X.w X.K X.mg X.base CX n f fd ps sp) (hr : Room n X.A) (hs : PySem.W.findIn X.K (.ref C) (PySem.cmpInfo op).2.1 = some (some (.ref f))) (hf : PySem.W.isFn X.K (.ref f) = true)
    (hsub : PySem.W.subIn X.K (.type "int") (.ref C) = some false) (hb : Binds X.K fd ps []) (hx : Passes CX X E) : OpR X (richCompare op) (rOwnI C sp E) := by
  intro pins s σ H x y v u Q I rx ry h
  obtain ⟨a, dx, fs, i, rfl, rfl, ha, h⟩ := h
  cases rx
  obtain ⟨t, rfl⟩ := ry
  obtain ⟨mA, J, _⟩ := ins_get I.hok ha
  obtain ⟨od, J, _⟩ := J.look
  obtain ⟨m, hF⟩ := I.fr
  refine PySem.W.cmp_K hr.units0 hF I.ok.mod.kin J (PySem.W.Looks.of_pure rfl) (by unfold PySem.W.notFirst; rw [hsub]; rfl) hs hf ?_
  exact thn (run_own (vs := [.ref a, .int i]) F ⟨hr, rfl⟩ hb hx I (.cons rfl (.cons ⟨t, rfl⟩ .nil)) h) fun u s' q => back_ep q
/-- whole number < own object .., by the own method of the other direction -/
theorem cmp_IOwn {op : CmpOp} {id : String} {B : Builtin} (F : FnOk X.prog X.w X.K X.mg X.base CX n f fd ps sp) (hr : Room n X.A) (hs : PySem.W.findIn X.K (.ref C) (PySem.cmpInfo op).2.2 = some (some (.ref f))) (hf : PySem.W.isFn X.K (.ref f) = true)
    (slot : Slot "int" (PySem.cmpInfo op).2.1 id) (entry : entryFor table id = some B) (args : ∀ a b : Value, argsOk id ⟨[a, b], []⟩)
    (me : ∀ (i : Int) (t : Tok) (x : Addr), Meets (B ⟨[.int i t, .ref x], []⟩) fun A R s => (∃ o, s.heap.get? x = some o ∧ ∀ j u, o.data ≠ .prim (.int j u)) ∧ R (.ok (.ret .notImplemented)) s)
    (hsub : PySem.W.subIn X.K (.ref C) (.type "int") = some false) (hb : Binds X.K fd ps []) (hx : Passes CX X E) : OpR X (richCompare op) (rIOwn C sp E) := by
  intro pins s σ H x y v u Q I rx ry h
  obtain ⟨a, dx, fs, i, rfl, rfl, ha, h⟩ := h
  obtain ⟨t, rfl⟩ := rx
  cases ry
  obtain ⟨mA, J, _⟩ := ins_get I.hok ha
  obtain ⟨od, J, _⟩ := J.look
  obtain ⟨m, hF⟩ := I.fr
  refine PySem.W.ksp_cmpR hr.units0 hF I.ok.mod.kin J (fun j u h => by cases h) hs hf slot entry (args _ _) (me i t a) hsub ?_
  exact thn (run_own (vs := [.ref a, .int i]) F ⟨hr, rfl⟩ hb hx I (.cons rfl (.cons ⟨t, rfl⟩ .nil)) h) fun u s' q => back_ep q
theorem cmp_ltIOwn (F : FnOk X.prog X.w X.K X.mg X.base CX n f fd ps sp) (hr : Room n X.A) (hs : PySem.W.findIn X.K (.ref C) "__gt__" = some (some (.ref f))) (hf : PySem.W.isFn X.K (.ref f) = true) (hsub : PySem.W.subIn X.K (.ref C) (.type "int") = some false) (hb : Binds X.K fd ps []) (hx : Passes CX X E) : OpR X (richCompare .Lt) (rIOwn C sp E) :=
  cmp_IOwn F hr hs hf PySem.F.slot_int_lt PySem.F.entry_int_lt PySem.F.args_int_lt_2 (fun _ _ _ => meets_intBin) hsub hb hx
theorem cmp_leIOwn (F : FnOk X.prog X.w X.K X.mg X.base CX n f fd ps sp) (hr : Room n X.A) (hs : PySem.W.findIn X.K (.ref C) "__ge__" = some (some (.ref f))) (hf : PySem.W.isFn X.K (.ref f) = true) (hsub : PySem.W.subIn X.K (.ref C) (.type "int") = some false) (hb : Binds X.K fd ps []) (hx : Passes CX X E) : OpR X (richCompare .LtE) (rIOwn C sp E) :=
  cmp_IOwn F hr hs hf PySem.F.slot_int_le PySem.F.entry_int_le PySem.F.args_int_le_2 (fun _ _ _ => meets_intBin) hsub hb hx
theorem cmp_gtIOwn (F : FnOk X.prog X.w X.K X.mg X.base CX n f fd ps sp) (hr : Room n X.A) (hs : PySem.W.findIn X.K (.ref C) "__lt__" = some (some (.ref f))) (hf : PySem.W.isFn X.K (.ref f) = true) (hsub : PySem.W.subIn X.K (.ref C) (.type "int") = some false) (hb : Binds X.K fd ps []) (hx : Passes CX X E) : OpR X (richCompare .Gt) (rIOwn C sp E) :=
  cmp_IOwn F hr hs hf PySem.F.slot_int_gt PySem.F.entry_int_gt PySem.F.args_int_gt_2 (fun _ _ _ => meets_intBin) hsub hb hx
theorem cmp_geIOwn (F : FnOk X.prog X.w X.K X.mg X.base CX n f fd ps sp) (hr : Room n X.A) (hs : PySem.W.findIn X.K (.ref C) "__le__" = some (some (.ref f))) (hf : PySem.W.isFn X.K (.ref f) = true) (hsub : PySem.W.subIn X.K (.ref C) (.type "int") = some false) (hb : Binds X.K fd ps []) (hx : Passes CX X E) : OpR X (richCompare .GtE) (rIOwn C sp E) :=
  cmp_IOwn F hr hs hf PySem.F.slot_int_ge PySem.F.entry_int_ge PySem.F.args_int_ge_2 (fun _ _ _ => meets_intBin) hsub hb hx
theorem cmp_eqIOwn (F : FnOk X.prog X.w X.K X.mg X.base CX n f fd ps sp) (hr : Room n X.A) (hs : PySem.W.findIn X.K (.ref C) "__eq__" = some (some (.ref f))) (hf : PySem.W.isFn X.K (.ref f) = true) (hsub : PySem.W.subIn X.K (.ref C) (.type "int") = some false) (hb : Binds X.K fd ps []) (hx : Passes CX X E) : OpR X (richCompare .Eq) (rIOwn C sp E) :=
  cmp_IOwn F hr hs hf PySem.F.slot_int_eq PySem.F.entry_int_eq PySem.F.args_int_eq_2 (fun _ _ _ => meets_intBin) hsub hb hx
end
end L2
namespace L2
open PySem PySem.Spec PyProof.Rows
theorem op_or2 {X : Cx} {f : Value → Value → Sem Value} {r1 r2 : R2} (h1 : OpR X f r1) (h2 : OpR X f r2) : OpR X f (fun x y H Q => r1 x y H Q ∨ r2 x y H Q) :=
  fun pins s σ H x y v u Q I rx ry h => h.elim (h1 pins s σ H x y v u Q I rx ry) (h2 pins s σ H x y v u Q I rx ry)
/-! ratios -/
def RatAt (C : Addr) (H : Hp) (x : Addr) (t b : Int) : Prop := ∃ dx, H x = some (.ins C dx [("top", .int t), ("bottom", .int b)])
def Nrm (t b : Int) : Prop := 0 < b ∧ Nat.gcd t.natAbs b.natAbs = 1
/-- t / b is p / q -/
def IsR (t b p q : Int) : Prop := Nrm t b ∧ t * q = p * b
def RV (C : Addr) (H : Hp) (y : V) (p q : Int) : Prop := (y = .int p ∧ q = 1) ∨ ∃ b, y = .ref b ∧ RatAt C H b p q
theorem RatAt.same {C : Addr} {H H' : Hp} {x : Addr} {t b : Int} (s : Same H H') (h : RatAt C H x t b) : RatAt C H' x t b := let ⟨dx, e⟩ := h; ⟨dx, s _ _ e⟩
theorem RV.same {C : Addr} {H H' : Hp} {y : V} {p q : Int} (s : Same H H') (h : RV C H y p q) : RV C H' y p q := h.elim (fun h => .inl h) fun ⟨b, e, h⟩ => .inr ⟨b, e, h.same s⟩
theorem putR1 {v : V} : putF ("top" : Str) v [] = [(("top" : Str), v)] := by rfl
theorem putR2 {u v : V} : putF ("bottom" : Str) v [(("top" : Str), u)] = [(("top" : Str), u), (("bottom" : Str), v)] := by rfl
theorem nrm_div {p q : Int} (hq : q ≠ 0) {g : Nat} (hg : g = Nat.gcd p.natAbs q.natAbs) : IsR (p / (if 0 < q then (g : Int) else -(g : Int))) (q / (if 0 < q then (g : Int) else -(g : Int))) p q := by
  have g0 : 0 < g := by rw [hg]; exact Nat.gcd_pos_of_pos_right _ (by omega)
  obtain ⟨p', hp'⟩ : (g : Int) ∣ p := Int.ofNat_dvd_left.mpr (by rw [hg]; exact Nat.gcd_dvd_left _ _)
  obtain ⟨q', hq'⟩ : (g : Int) ∣ q := Int.ofNat_dvd_left.mpr (by rw [hg]; exact Nat.gcd_dvd_right _ _)
  have cop : Nat.gcd p'.natAbs q'.natAbs = 1 := by
    have h1 := congrArg Int.natAbs hp'
    have h2 := congrArg Int.natAbs hq'
    rw [Int.natAbs_mul, Int.natAbs_natCast] at h1 h2
    rw [h1, h2, Nat.gcd_mul_left] at hg
    exact Nat.eq_of_mul_eq_mul_left g0 (by rw [← hg, Nat.mul_one])
  have gi : (g : Int) ≠ 0 := by omega
  clear hg
  split
  · rename_i h
    have e1 : p / (g : Int) = p' := by rw [hp', Int.mul_ediv_cancel_left _ gi]
    have e2 : q / (g : Int) = q' := by rw [hq', Int.mul_ediv_cancel_left _ gi]
    rw [e1, e2]
    refine ⟨⟨?_, cop⟩, ?_⟩
    · refine Int.not_le.mp fun z => ?_
      have := Int.mul_nonneg (a := (g : Int)) (b := -q') (by omega) (by omega)
      rw [Int.mul_neg] at this
      omega
    · rw [hp', hq']
      simp [Int.mul_comm, Int.mul_left_comm, Int.mul_assoc]
  · rename_i h
    have e1 : p / -(g : Int) = -p' := by rw [hp', Int.ediv_neg, Int.mul_ediv_cancel_left _ gi]
    have e2 : q / -(g : Int) = -q' := by rw [hq', Int.ediv_neg, Int.mul_ediv_cancel_left _ gi]
    rw [e1, e2]
    refine ⟨⟨?_, by rw [Int.natAbs_neg, Int.natAbs_neg]; exact cop⟩, ?_⟩
    · have : q' < 0 := by
        refine Int.not_le.mp fun z => h ?_
        have h1 : 0 ≤ (g : Int) * q' := Int.mul_nonneg (by omega) z
        omega
      omega
    · rw [hp', hq']
      grind
end L2
namespace L2
open PySem PySem.Spec PyProof.Rows
def Sz (k : Nat) (i : Int) : Prop := i.natAbs < 2 ^ k
theorem Sz.mono {k l : Nat} {i : Int} (h : Sz k i) (e : k ≤ l) : Sz l i := Nat.lt_of_lt_of_le h (Nat.pow_le_pow_right (by decide) e)
theorem Sz.mul {k l : Nat} {i j : Int} (a : Sz k i) (b : Sz l j) : Sz (k + l) (i * j) := by
  unfold Sz at *
  rw [Int.natAbs_mul, Nat.pow_add]
  exact Nat.mul_lt_mul'' a b
theorem Sz.add {k : Nat} {i j : Int} (a : Sz k i) (b : Sz k j) : Sz (k + 1) (i + j) := by
  unfold Sz at *
  have := Int.natAbs_add_le i j
  rw [Nat.pow_succ]
  omega
theorem Sz.neg {k : Nat} {i : Int} (a : Sz k i) : Sz k (-i) := by
  unfold Sz at *
  rwa [Int.natAbs_neg]
theorem Sz.le {k : Nat} {i j : Int} (a : Sz k i) (h : j.natAbs ≤ i.natAbs) : Sz k j := Nat.lt_of_le_of_lt h a
theorem Sz.mulW {k l : Nat} {i j : Int} (a : Sz k i) (b : Sz l j) (h : k + l ≤ 900) : CMulW i j :=
  wide_mul (a := k + 1) (b := l + 1) (a.mono (Nat.le_succ _)) (b.mono (Nat.le_succ _)) (Nat.succ_pos _) (Nat.succ_pos _) (by omega)
theorem isR_int {t b i : Int} (h : IsR t b i 1) : b = 1 ∧ t = i := by
  obtain ⟨⟨h0, hg⟩, e⟩ := h
  rw [Int.mul_one] at e
  have : b.natAbs ∣ t.natAbs := by rw [e, Int.natAbs_mul]; exact Nat.dvd_mul_left _ _
  rw [Nat.gcd_comm, Nat.gcd_eq_left this] at hg
  have hb : b = 1 := by omega
  exact ⟨hb, by rw [e, hb, Int.mul_one]⟩
def spRInit (C : Addr) : Sp := fun vs H Q _ => ∃ (x dx : Addr) (p q : Int), vs = [.ref x, .int p, .int q] ∧ H x = some (.ins C dx []) ∧ 0 < q ∧ Sz 900 q ∧
  ∀ H' t b, RatAt C H' x t b → (∀ c u, c ≠ x → H c = some u → H' c = some u) → IsR t b p q → t.natAbs ≤ p.natAbs → b.natAbs ≤ q.natAbs → Q .non H'
def spRof (C : Addr) : Sp := fun vs H Q _ => ∃ (y : V) (p q : Int), vs = [y] ∧ RV C H y p q ∧ ∀ H' r, Same H H' → RatAt C H' r p q → Q (.ref r) H'
def spRNew (C : Addr) (H : Hp) (p q : Int) (Q : VK) : Prop := ∀ H' r t b, Same H H' → RatAt C H' r t b → IsR t b p q → t.natAbs ≤ p.natAbs → b.natAbs ≤ q.natAbs → Q (.ref r) H'
def spRAdd (C : Addr) : Sp := fun vs H Q _ => ∃ (x : Addr) (y : V) (t1 b1 t2 b2 : Int), vs = [.ref x, y] ∧ RatAt C H x t1 b1 ∧ RV C H y t2 b2 ∧ 0 < b1 ∧ 0 < b2 ∧ Sz 400 t1 ∧ Sz 400 b1 ∧ Sz 400 t2 ∧ Sz 400 b2 ∧ spRNew C H (t1 * b2 + t2 * b1) (b1 * b2) Q
def spRNeg (C : Addr) : Sp := fun vs H Q _ => ∃ (x : Addr) (t1 b1 : Int), vs = [.ref x] ∧ RatAt C H x t1 b1 ∧ 0 < b1 ∧ Sz 400 b1 ∧ spRNew C H (-t1) b1 Q
def spRSub (C : Addr) : Sp := fun vs H Q _ => ∃ (x : Addr) (y : V) (t1 b1 t2 b2 : Int), vs = [.ref x, y] ∧ RatAt C H x t1 b1 ∧ RV C H y t2 b2 ∧ Nrm t1 b1 ∧ Nrm t2 b2 ∧ Sz 400 t1 ∧ Sz 400 b1 ∧ Sz 400 t2 ∧ Sz 400 b2 ∧ spRNew C H (t1 * b2 + -t2 * b1) (b1 * b2) Q
/-- a comparison of fractions -/
def spRCmp (C : Addr) (f : Int → Int → Bool) : Sp := fun vs H Q _ => ∃ (x : Addr) (y : V) (t1 b1 t2 b2 : Int), vs = [.ref x, y] ∧ RatAt C H x t1 b1 ∧ RV C H y t2 b2 ∧ Nrm t1 b1 ∧ Nrm t2 b2 ∧ Sz 400 t1 ∧ Sz 400 b1 ∧ Sz 400 t2 ∧ Sz 400 b2 ∧ ∀ H', Same H H' → Q (.bl (f (t1 * b2) (t2 * b1))) H'
end L2
namespace L2
open PySem PySem.Spec PyProof.Rows
/-- a def with defaults that lets no error out -/
theorem FunD.ok0 {P : Program} {w : World} {K : PySem.W.Frag} {mg : Str → Option Value} {base : Heap} {x qual : Str} {params : Arguments} {body : List Stmt} {scope : Scope} {dvs : List V} {kws : List (Str × V)} {f : Addr} {fd : FuncData} {N ps : List Str} {k : Nat} {sp : Sp} (F : FunD K x qual params body scope dvs kws f fd) (S : FnScope N ps scope) (len : ∀ vs H Q E, sp vs H Q E → vs.length = ps.length)
    (hbody : ∀ (cdv : Value) (A : Around) (outer : List Env) (s : Shared) (H : Hp) (vs : List V) (Q : VK) (E : XK), Room k (A.deeper (envOfC qual scope s.heap.objs.size f cdv)) → sp vs H Q E →
      ∃ t, PSs (cxOf CX0 P w K mg base N qual scope f cdv A outer s H E).nox body t ∧ t { nx := fun _ H' => Q .non H', rt := Q } (start N vs) H) : FnOk P w K mg base CX0 (k + 1) f fd ps sp := by
  obtain ⟨oc, od, dV, kV, doc, pm, an, cdv, ct, osl, rfl, lk, hcd, _, _⟩ := F.ex
  refine fn_of lk hcd S len fun A outer s H vs Q E hr hsp => ?_
  obtain ⟨t, h, q⟩ := hbody cdv A outer s H vs Q E hr hsp
  exact ⟨t, h.nox, q⟩
end L2
namespace L2
open PySem PySem.Spec PyProof.Rows
theorem kit_int {K : PySem.W.Frag} {C : Addr} (h2 : PySem.W.isClsIn K C = true) (h3 : PySem.W.typeIn K (.ref C) = some (.type "type")) : PySem.W.kitOne K (.type "int") (.ref C) = some false := by
  unfold PySem.W.kitOne
  split
  · rename_i h
    cases h
  · show (if ((PySem.W.clsIn K C).isSome && PySem.W.typeIn K (.ref C) == some (.type "type")) = true then PySem.W.subIn K (.type "int") (.ref C) else none) = some false
    rw [show (PySem.W.clsIn K C).isSome = true from h2, h3]
    rfl
end L2

namespace L2
open PySem PySem.Spec PyProof.Rows
section
variable {X : Cx}
def eqb (k : Bool) (v : Value) : Bool := match v with
  | .bool n => n == k
  | _ => false
def rCntB (K : PySem.W.Frag) : V → List V → Hp → VK → Prop := fun x xs H Q => ∃ (p : Addr) (bs : List Bool) (k : Bool), x = .ref p ∧ xs = [.bl k] ∧ SqL K H p (bs.map V.bl) ∧ Q (.int (bs.count k : Nat)) H
theorem eqb_at {A : Around} {s : Shared} (hu : A.units < cLine) (a b : Bool) : SeqAt.EqAt A s (.bool a) (.bool b) (a == b) := by
  have := SeqAt.eqAt_reads (.bool a) (.bool b) A s (.bool a) (.bool b) [] [] (.bool _) (.bool _) rfl rfl (by
    rw [show min (PyData.depth (.bool a)) (PyData.depth (.bool b)) = 0 by simp [PyData.depth]]
    omega)
  rwa [show PyData.eqv (.bool a) (.bool b) = (a == b) by simp [PyData.eqv]] at this
theorem mt_lcountB (hu : X.A.units + 65 < cLine) : MtR X "list.count" (rCntB X.K) := by
  intro pins s σ H x xs v us Q I rx rxs h
  obtain ⟨p, bs, k, rfl, rfl, hs, q⟩ := h
  cases rx
  obtain ⟨u, rfl, ru⟩ := rxs.one
  cases ru
  obtain ⟨its, rv, ⟨⟨cls, dd, data, sl⟩, n, ho, hc, hdn, hd⟩, hlen⟩ := I.list hs
  simp only at hc hd
  subst hc hd
  obtain rfl := Vals.bls rv
  refine call_meets PySem.F.slot_list_count ⟨_, ho, rfl⟩ PySem.F.entry_list_count (PySem.F.args_list_count_2 _ _)
    (SeqAt.list_countAt p (bs.map Value.bool).toArray n dd sl (.bool k) (eqb k)) ⟨ho, fun y hy => ?_, ?_⟩
  · obtain ⟨b, _, rfl⟩ := List.mem_map.mp (show y ∈ bs.map Value.bool by simpa using hy)
    refine eqb_at ?_ b k
    have : X.A.in1.units ≤ X.A.units + 2 := by first | exact Nat.le_refl _ | (show X.A.units + 1 ≤ _; omega) | (show X.A.units ≤ _; omega)
    omega
  have ec : ((bs.map Value.bool).toArray.toList.countP (eqb k)) = bs.count k := by
    rw [List.countP_map]
    rfl
  refine ⟨.int (bs.count k : Nat), H, I.tok _, ⟨s.toks, ?_⟩, q⟩
  show Value.int (((bs.map Value.bool).toArray.toList.countP (eqb k) : Nat) : Int) s.toks = _
  rw [ec]
/-- how many of what is told hold -/
def pgB (i j : Int) : List Bool := [decide (i < j), decide (i ≤ j), decide (i = j), decide (j ≤ i), decide (j < i)]
theorem pgB_count (i j : Int) : (pgB i j).count true = 2 ∨ (pgB i j).count true = 3 := by
  unfold pgB
  rcases Int.lt_trichotomy i j with h | h | h
  · left
    simp [h, Int.le_of_lt h, Int.ne_of_lt h, Int.not_le.mpr h, Int.not_lt.mpr (Int.le_of_lt h)]
  · right
    subst h
    simp
  · left
    simp [h, Int.le_of_lt h, (Int.ne_of_lt h).symm, Int.not_le.mpr h, Int.not_lt.mpr (Int.le_of_lt h)]
theorem pgB_rev (i j : Int) : (pgB i j).reverse = pgB j i := by
  unfold pgB
  simp [eq_comm]
end
end L2

namespace K45
open PySem PySem.Spec PyProof.Rows L2
def topS (i : Nat) : Stmt := PySem.Challenge.pw_steppedtests_k45_whole_order_of_ratios.main.body.getD i (.Pass ⟨0, 0, 0, 0⟩)
abbrev s_Ratio_init : Stmt := inClass (topS 6) 0
abbrev N_Ratio_init : List Str := ["self", "top", "bottom", "shared"]
abbrev P_Ratio_init : List Str := ["self", "top", "bottom"]
theorem sc_Ratio_init : FnScope N_Ratio_init P_Ratio_init (defScope s_Ratio_init) := ⟨rfl, rfl, rfl, by decide +kernel, rfl, by decide +kernel, by decide +kernel⟩
abbrev s_ratio_of : Stmt := topS 7
abbrev N_ratio_of : List Str := ["value"]
abbrev P_ratio_of : List Str := ["value"]
theorem sc_ratio_of : FnScope N_ratio_of P_ratio_of (defScope s_ratio_of) := ⟨rfl, rfl, rfl, by decide +kernel, rfl, by decide +kernel, by decide +kernel⟩
abbrev s_Ratio_add : Stmt := inClass (topS 6) 1
abbrev N_Ratio_add : List Str := ["self", "other", "more"]
abbrev P_Ratio_add : List Str := ["self", "other"]
theorem sc_Ratio_add : FnScope N_Ratio_add P_Ratio_add (defScope s_Ratio_add) := ⟨rfl, rfl, rfl, by decide +kernel, rfl, by decide +kernel, by decide +kernel⟩
abbrev s_Ratio_radd : Stmt := inClass (topS 6) 2
abbrev N_Ratio_radd : List Str := ["self", "other"]
abbrev P_Ratio_radd : List Str := ["self", "other"]
theorem sc_Ratio_radd : FnScope N_Ratio_radd P_Ratio_radd (defScope s_Ratio_radd) := ⟨rfl, rfl, rfl, by decide +kernel, rfl, by decide +kernel, by decide +kernel⟩
abbrev s_Ratio_neg : Stmt := inClass (topS 6) 3
abbrev N_Ratio_neg : List Str := ["self"]
abbrev P_Ratio_neg : List Str := ["self"]
theorem sc_Ratio_neg : FnScope N_Ratio_neg P_Ratio_neg (defScope s_Ratio_neg) := ⟨rfl, rfl, rfl, by decide +kernel, rfl, by decide +kernel, by decide +kernel⟩
abbrev s_Ratio_sub : Stmt := inClass (topS 6) 4
abbrev N_Ratio_sub : List Str := ["self", "other"]
abbrev P_Ratio_sub : List Str := ["self", "other"]
theorem sc_Ratio_sub : FnScope N_Ratio_sub P_Ratio_sub (defScope s_Ratio_sub) := ⟨rfl, rfl, rfl, by decide +kernel, rfl, by decide +kernel, by decide +kernel⟩
abbrev s_Ratio_rsub : Stmt := inClass (topS 6) 5
abbrev N_Ratio_rsub : List Str := ["self", "other"]
abbrev P_Ratio_rsub : List Str := ["self", "other"]
theorem sc_Ratio_rsub : FnScope N_Ratio_rsub P_Ratio_rsub (defScope s_Ratio_rsub) := ⟨rfl, rfl, rfl, by decide +kernel, rfl, by decide +kernel, by decide +kernel⟩
abbrev s_Ratio_eq : Stmt := inClass (topS 6) 9
abbrev N_Ratio_eq : List Str := ["self", "other"]
abbrev P_Ratio_eq : List Str := ["self", "other"]
theorem sc_Ratio_eq : FnScope N_Ratio_eq P_Ratio_eq (defScope s_Ratio_eq) := ⟨rfl, rfl, rfl, by decide +kernel, rfl, by decide +kernel, by decide +kernel⟩
abbrev s_Ratio_lt : Stmt := inClass (topS 6) 10
abbrev N_Ratio_lt : List Str := ["self", "other"]
abbrev P_Ratio_lt : List Str := ["self", "other"]
theorem sc_Ratio_lt : FnScope N_Ratio_lt P_Ratio_lt (defScope s_Ratio_lt) := ⟨rfl, rfl, rfl, by decide +kernel, rfl, by decide +kernel, by decide +kernel⟩
abbrev s_Ratio_le : Stmt := inClass (topS 6) 11
abbrev N_Ratio_le : List Str := ["self", "other"]
abbrev P_Ratio_le : List Str := ["self", "other"]
theorem sc_Ratio_le : FnScope N_Ratio_le P_Ratio_le (defScope s_Ratio_le) := ⟨rfl, rfl, rfl, by decide +kernel, rfl, by decide +kernel, by decide +kernel⟩
abbrev s_Ratio_gt : Stmt := inClass (topS 6) 12
abbrev N_Ratio_gt : List Str := ["self", "other"]
abbrev P_Ratio_gt : List Str := ["self", "other"]
theorem sc_Ratio_gt : FnScope N_Ratio_gt P_Ratio_gt (defScope s_Ratio_gt) := ⟨rfl, rfl, rfl, by decide +kernel, rfl, by decide +kernel, by decide +kernel⟩
abbrev s_Ratio_ge : Stmt := inClass (topS 6) 13
abbrev N_Ratio_ge : List Str := ["self", "other"]
abbrev P_Ratio_ge : List Str := ["self", "other"]
theorem sc_Ratio_ge : FnScope N_Ratio_ge P_Ratio_ge (defScope s_Ratio_ge) := ⟨rfl, rfl, rfl, by decide +kernel, rfl, by decide +kernel, by decide +kernel⟩
abbrev s_l_pool : Stmt := topS 9
abbrev N_l_pool : List Str := ["_law_script", "_law_k", "_law_cell", "_law_big", "_law_mixed"]
abbrev P_l_pool : List Str := ["_law_script", "_law_k"]
theorem sc_l_pool : FnScope N_l_pool P_l_pool (defScope s_l_pool) := ⟨rfl, rfl, rfl, by decide +kernel, rfl, by decide +kernel, by decide +kernel⟩
abbrev s_l_take : Stmt := topS 10
abbrev N_l_take : List Str := ["_law_pool_here", "_law_bound", "_law_result"]
abbrev P_l_take : List Str := ["_law_pool_here", "_law_bound"]
theorem sc_l_take : FnScope N_l_take P_l_take (defScope s_l_take) := ⟨rfl, rfl, rfl, by decide +kernel, rfl, by decide +kernel, by decide +kernel⟩
abbrev s_l_number : Stmt := topS 11
abbrev N_l_number : List Str := ["_law_pool_here", "_law_most", "_law_number_here", "_law_turn"]
abbrev P_l_number : List Str := ["_law_pool_here", "_law_most"]
theorem sc_l_number : FnScope N_l_number P_l_number (defScope s_l_number) := ⟨rfl, rfl, rfl, by decide +kernel, rfl, by decide +kernel, by decide +kernel⟩
abbrev s_l_page : Stmt := topS 12
abbrev N_l_page : List Str := ["_law_one", "_law_two"]
abbrev P_l_page : List Str := ["_law_one", "_law_two"]
theorem sc_l_page : FnScope N_l_page P_l_page (defScope s_l_page) := ⟨rfl, rfl, rfl, by decide +kernel, rfl, by decide +kernel, by decide +kernel⟩
abbrev s_l_due : Stmt := topS 13
abbrev N_l_due : List Str := ["_law_left", "_law_right"]
abbrev P_l_due : List Str := ["_law_left", "_law_right"]
theorem sc_l_due : FnScope N_l_due P_l_due (defScope s_l_due) := ⟨rfl, rfl, rfl, by decide +kernel, rfl, by decide +kernel, by decide +kernel⟩
abbrev s_law : Stmt := topS 14
abbrev N_law : List Str := ["_law_script", "_law_k", "_law_pool_here", "_law_tops", "_law_bottoms", "_law_turn", "_law_bottom", "_law_factor", "_law_number_here", "_law_ratios", "_law_one", "_law_two", "_law_due_here", "_law_at"]
abbrev P_law : List Str := ["_law_script"]
theorem sc_law : FnScope N_law P_law (defScope s_law) := ⟨rfl, rfl, rfl, by decide +kernel, rfl, by decide +kernel, by decide +kernel⟩
structure Ad where
  c_Ratio : Addr
  f_Ratio_init : Addr
  d_Ratio_init : FuncData
  f_ratio_of : Addr
  d_ratio_of : FuncData
  f_Ratio_add : Addr
  d_Ratio_add : FuncData
  f_Ratio_radd : Addr
  d_Ratio_radd : FuncData
  f_Ratio_neg : Addr
  d_Ratio_neg : FuncData
  f_Ratio_sub : Addr
  d_Ratio_sub : FuncData
  f_Ratio_rsub : Addr
  d_Ratio_rsub : FuncData
  f_Ratio_eq : Addr
  d_Ratio_eq : FuncData
  f_Ratio_lt : Addr
  d_Ratio_lt : FuncData
  f_Ratio_le : Addr
  d_Ratio_le : FuncData
  f_Ratio_gt : Addr
  d_Ratio_gt : FuncData
  f_Ratio_ge : Addr
  d_Ratio_ge : FuncData
  f_l_pool : Addr
  d_l_pool : FuncData
  f_l_take : Addr
  d_l_take : FuncData
  f_l_number : Addr
  d_l_number : FuncData
  f_l_page : Addr
  d_l_page : FuncData
  f_l_due : Addr
  d_l_due : FuncData
  f_law : Addr
  d_law : FuncData
  ds_Ratio_init : List Value
structure Txt (K : PySem.W.Frag) (mg : Str → Option Value) (a : Ad) : Prop where
  g_Ratio : mg "Ratio" = some (.ref a.c_Ratio)
  cl_Ratio : Cls K a.c_Ratio
  mk_Ratio : Mk K a.c_Ratio a.f_Ratio_init
  nA_Ratio_top : NoAttr K a.c_Ratio "top"
  nA_Ratio_bottom : NoAttr K a.c_Ratio "bottom"
  sf_Ratio : PySem.W.selfFirst K a.c_Ratio = true
  ni_Ratio : PySem.W.subIn K (.ref a.c_Ratio) (.type "int") = some false
  ki_Ratio : PySem.W.kitOne K (.type "int") (.ref a.c_Ratio) = some false
  ic_Ratio : PySem.W.findIn K (.ref a.c_Ratio) "__class__" = some (some (.builtin "object.__class__")) ∧ PySem.W.specialIn K (.builtin "object.__class__") "__get__" = some (some (.builtin "getset_descriptor.__get__")) ∧ PySem.W.takesIn K (.builtin "object.__class__") = some true ∧ PySem.W.mroIn K a.c_Ratio (.type "object") = some true
  is_Ratio : PySem.W.kitOne K (.ref a.c_Ratio) (.ref a.c_Ratio) = some true
  F_Ratio_init : FunD K "__init__" "Ratio.__init__" (defArgs s_Ratio_init) (defBody s_Ratio_init) (defScope s_Ratio_init) [V.int 1] [] a.f_Ratio_init a.d_Ratio_init
  k_Ratio_init : PySem.W.keepIn K (.ref a.f_Ratio_init) = true
  i_Ratio_init : PySem.W.isFn K (.ref a.f_Ratio_init) = true
  vd_Ratio_init : Vals [V.int 1] a.ds_Ratio_init
  bd_Ratio_init : L2.Binds K a.d_Ratio_init P_Ratio_init a.ds_Ratio_init
  b_Ratio_init : L2.Binds K a.d_Ratio_init P_Ratio_init []
  F_ratio_of : Fun K "ratio_of" "ratio_of" s_ratio_of a.f_ratio_of a.d_ratio_of
  b_ratio_of : Binds K a.d_ratio_of P_ratio_of []
  k_ratio_of : PySem.W.keepIn K (.ref a.f_ratio_of) = true
  g_ratio_of : mg "ratio_of" = some (.ref a.f_ratio_of)
  F_Ratio_add : Fun K "__add__" "Ratio.__add__" s_Ratio_add a.f_Ratio_add a.d_Ratio_add
  b_Ratio_add : Binds K a.d_Ratio_add P_Ratio_add []
  k_Ratio_add : PySem.W.keepIn K (.ref a.f_Ratio_add) = true
  i_Ratio_add : PySem.W.isFn K (.ref a.f_Ratio_add) = true
  s_Ratio_add : PySem.W.findIn K (.ref a.c_Ratio) "__add__" = some (some (.ref a.f_Ratio_add))
  F_Ratio_radd : Fun K "__radd__" "Ratio.__radd__" s_Ratio_radd a.f_Ratio_radd a.d_Ratio_radd
  b_Ratio_radd : Binds K a.d_Ratio_radd P_Ratio_radd []
  k_Ratio_radd : PySem.W.keepIn K (.ref a.f_Ratio_radd) = true
  i_Ratio_radd : PySem.W.isFn K (.ref a.f_Ratio_radd) = true
  s_Ratio_radd : PySem.W.findIn K (.ref a.c_Ratio) "__radd__" = some (some (.ref a.f_Ratio_radd))
  F_Ratio_neg : Fun K "__neg__" "Ratio.__neg__" s_Ratio_neg a.f_Ratio_neg a.d_Ratio_neg
  b_Ratio_neg : Binds K a.d_Ratio_neg P_Ratio_neg []
  k_Ratio_neg : PySem.W.keepIn K (.ref a.f_Ratio_neg) = true
  i_Ratio_neg : PySem.W.isFn K (.ref a.f_Ratio_neg) = true
  s_Ratio_neg : PySem.W.findIn K (.ref a.c_Ratio) "__neg__" = some (some (.ref a.f_Ratio_neg))
  F_Ratio_sub : Fun K "__sub__" "Ratio.__sub__" s_Ratio_sub a.f_Ratio_sub a.d_Ratio_sub
  b_Ratio_sub : Binds K a.d_Ratio_sub P_Ratio_sub []
  k_Ratio_sub : PySem.W.keepIn K (.ref a.f_Ratio_sub) = true
  i_Ratio_sub : PySem.W.isFn K (.ref a.f_Ratio_sub) = true
  s_Ratio_sub : PySem.W.findIn K (.ref a.c_Ratio) "__sub__" = some (some (.ref a.f_Ratio_sub))
  F_Ratio_rsub : Fun K "__rsub__" "Ratio.__rsub__" s_Ratio_rsub a.f_Ratio_rsub a.d_Ratio_rsub
  b_Ratio_rsub : Binds K a.d_Ratio_rsub P_Ratio_rsub []
  k_Ratio_rsub : PySem.W.keepIn K (.ref a.f_Ratio_rsub) = true
  i_Ratio_rsub : PySem.W.isFn K (.ref a.f_Ratio_rsub) = true
  s_Ratio_rsub : PySem.W.findIn K (.ref a.c_Ratio) "__rsub__" = some (some (.ref a.f_Ratio_rsub))
  F_Ratio_eq : Fun K "__eq__" "Ratio.__eq__" s_Ratio_eq a.f_Ratio_eq a.d_Ratio_eq
  b_Ratio_eq : Binds K a.d_Ratio_eq P_Ratio_eq []
  k_Ratio_eq : PySem.W.keepIn K (.ref a.f_Ratio_eq) = true
  i_Ratio_eq : PySem.W.isFn K (.ref a.f_Ratio_eq) = true
  s_Ratio_eq : PySem.W.findIn K (.ref a.c_Ratio) "__eq__" = some (some (.ref a.f_Ratio_eq))
  F_Ratio_lt : Fun K "__lt__" "Ratio.__lt__" s_Ratio_lt a.f_Ratio_lt a.d_Ratio_lt
  b_Ratio_lt : Binds K a.d_Ratio_lt P_Ratio_lt []
  k_Ratio_lt : PySem.W.keepIn K (.ref a.f_Ratio_lt) = true
  i_Ratio_lt : PySem.W.isFn K (.ref a.f_Ratio_lt) = true
  s_Ratio_lt : PySem.W.findIn K (.ref a.c_Ratio) "__lt__" = some (some (.ref a.f_Ratio_lt))
  F_Ratio_le : Fun K "__le__" "Ratio.__le__" s_Ratio_le a.f_Ratio_le a.d_Ratio_le
  b_Ratio_le : Binds K a.d_Ratio_le P_Ratio_le []
  k_Ratio_le : PySem.W.keepIn K (.ref a.f_Ratio_le) = true
  i_Ratio_le : PySem.W.isFn K (.ref a.f_Ratio_le) = true
  s_Ratio_le : PySem.W.findIn K (.ref a.c_Ratio) "__le__" = some (some (.ref a.f_Ratio_le))
  F_Ratio_gt : Fun K "__gt__" "Ratio.__gt__" s_Ratio_gt a.f_Ratio_gt a.d_Ratio_gt
  b_Ratio_gt : Binds K a.d_Ratio_gt P_Ratio_gt []
  k_Ratio_gt : PySem.W.keepIn K (.ref a.f_Ratio_gt) = true
  i_Ratio_gt : PySem.W.isFn K (.ref a.f_Ratio_gt) = true
  s_Ratio_gt : PySem.W.findIn K (.ref a.c_Ratio) "__gt__" = some (some (.ref a.f_Ratio_gt))
  F_Ratio_ge : Fun K "__ge__" "Ratio.__ge__" s_Ratio_ge a.f_Ratio_ge a.d_Ratio_ge
  b_Ratio_ge : Binds K a.d_Ratio_ge P_Ratio_ge []
  k_Ratio_ge : PySem.W.keepIn K (.ref a.f_Ratio_ge) = true
  i_Ratio_ge : PySem.W.isFn K (.ref a.f_Ratio_ge) = true
  s_Ratio_ge : PySem.W.findIn K (.ref a.c_Ratio) "__ge__" = some (some (.ref a.f_Ratio_ge))
  F_l_pool : Fun K "_law_pool" "_law_pool" s_l_pool a.f_l_pool a.d_l_pool
  b_l_pool : Binds K a.d_l_pool P_l_pool []
  k_l_pool : PySem.W.keepIn K (.ref a.f_l_pool) = true
  g_l_pool : mg "_law_pool" = some (.ref a.f_l_pool)
  F_l_take : Fun K "_law_take" "_law_take" s_l_take a.f_l_take a.d_l_take
  b_l_take : Binds K a.d_l_take P_l_take []
  k_l_take : PySem.W.keepIn K (.ref a.f_l_take) = true
  g_l_take : mg "_law_take" = some (.ref a.f_l_take)
  F_l_number : Fun K "_law_number" "_law_number" s_l_number a.f_l_number a.d_l_number
  b_l_number : Binds K a.d_l_number P_l_number []
  k_l_number : PySem.W.keepIn K (.ref a.f_l_number) = true
  g_l_number : mg "_law_number" = some (.ref a.f_l_number)
  F_l_page : Fun K "_law_page" "_law_page" s_l_page a.f_l_page a.d_l_page
  b_l_page : Binds K a.d_l_page P_l_page []
  k_l_page : PySem.W.keepIn K (.ref a.f_l_page) = true
  g_l_page : mg "_law_page" = some (.ref a.f_l_page)
  F_l_due : Fun K "_law_due" "_law_due" s_l_due a.f_l_due a.d_l_due
  b_l_due : Binds K a.d_l_due P_l_due []
  k_l_due : PySem.W.keepIn K (.ref a.f_l_due) = true
  g_l_due : mg "_law_due" = some (.ref a.f_l_due)
  F_law : Fun K "law" "law" s_law a.f_law a.d_law
  b_law : Binds K a.d_law P_law []
  k_law : PySem.W.keepIn K (.ref a.f_law) = true
  g_law : mg "law" = some (.ref a.f_law)
  gg_gcd : mg "gcd" = some (.builtin "math.gcd")
  z_abs : mg "abs" = none
  z_int : mg "int" = none
  z_isinstance : mg "isinstance" = none
  z_len : mg "len" = none
  z_max : mg "max" = none
  z_min : mg "min" = none
  z_range : mg "range" = none
section
variable {P : Program} {w : World} {K : PySem.W.Frag} {mg : Str → Option Value} {base : Heap} {a : Ad}
theorem ok_Ratio_init (T : Txt K mg a) : FnOk P w K mg base CX0 1 a.f_Ratio_init a.d_Ratio_init P_Ratio_init (spRInit a.c_Ratio) := by
  refine T.F_Ratio_init.ok0 sc_Ratio_init (fun vs H Q E h => ?_) (fun cdv A outer s H vs Q E hr h => ?_)
  · obtain ⟨x, dx, p, q, rfl, _⟩ := h
    rfl
  · obtain ⟨x, dx, p, q, rfl, hx, hq, sq, k⟩ := h
    refine ⟨_, (Evl.pss_cut (ps_if (pt_cmpR op_eq (pv 2) pe_int (nomark _))
    (pss_one ps_never)
    pss_nil)
  (Evl.pss_cut (ps_set (i := 3) sc_Ratio_init.nd rfl (Or.inl rfl) (pe_ifExp (pt_cmpR op_gt (pv 2) pe_int (nomark _)) (pe_callBfun cr_gcd (by rfl) T.gg_gcd (pa_cons (pv 1) (pa_cons (pv 2) pa_nil))) (pe_un un_neg (pe_callBfun cr_gcd (by rfl) T.gg_gcd (pa_cons (pv 1) (pa_cons (pv 2) pa_nil))))))
  (Evl.pss_cut (ps_fld (pv 0) (pe_op op_fdivW (pv 1) (pv 3)) rfl)
  (pss_one (ps_fld (pv 0) (pe_op op_fdivW (pv 2) (pv 3)) rfl))))), ?_⟩
    refine ⟨fun σ H1 => σ = [some (.ref x), some (.int p), some (.int q), none] ∧ H1 = H, ?_, ?_⟩
    · refine ⟨_, rfl, rfl, _, rfl, ?_⟩
      rw [show decide (V.int q = V.int 0) = false by simp; omega]
      exact iteF ⟨rfl, rfl⟩
    rintro σ H1 ⟨rfl, rfl⟩
    obtain ⟨g, hg⟩ : ∃ g : Nat, g = Nat.gcd p.natAbs q.natAbs := ⟨_, rfl⟩
    have g0 : 0 < g := by rw [hg]; exact Nat.gcd_pos_of_pos_right _ (by omega)
    refine ⟨fun σ H2 => σ = [some (.ref x), some (.int p), some (.int q), some (.int (g : Int))] ∧ H2 = H1, ?_, ?_⟩
    · refine ⟨_, rfl, _, _, rfl, rfl, _, rfl, ?_⟩
      rw [decide_eq_true hq]
      refine iteT ⟨_, rfl, _, rfl, _, _, rfl, ?_⟩
      rw [← hg]
      exact ⟨rfl, rfl⟩
    rintro σ H2 ⟨rfl, rfl⟩
    have hd := nrm_div (p := p) (q := q) (by omega) hg
    rw [if_pos hq] at hd
    have hgq : g ≤ q.natAbs := by rw [hg]; exact Nat.le_of_dvd (by omega) (Nat.gcd_dvd_right _ _)
    have cd : ∀ i, CDivW i (g : Int) := fun i => wide_div (i := i) (b := 900) (by omega) (Nat.lt_of_le_of_lt (by rw [Int.natAbs_natCast]; exact hgq) sq) (by decide) (by decide)
    refine ⟨fun σ H3 => σ = [some (.ref x), some (.int p), some (.int q), some (.int (g : Int))] ∧ H3 x = some (.ins a.c_Ratio dx [("top", .int (p / (g : Int)))]) ∧ ∀ c u, c ≠ x → H2 c = some u → H3 c = some u, ?_, ?_⟩
    · exact ⟨_, rfl, _, rfl, _, _, rfl, rfl, cd _, _, rfl, x, _, dx, _, rfl, hx, T.cl_Ratio, T.nA_Ratio_top, by show 0 < 1000; decide, rfl, by rw [upd_same, putR1], fun c u nc hc => by rw [upd_ne nc]; exact hc⟩
    rintro σ H3 ⟨rfl, hx3, k3⟩
    refine ⟨_, rfl, _, rfl, _, _, rfl, rfl, cd _, _, rfl, x, _, dx, _, rfl, hx3, T.cl_Ratio, T.nA_Ratio_bottom, by show 1 < 1000; decide, ?_⟩
    exact k _ _ _ ⟨dx, by rw [upd_same, putR2]⟩ (fun c u nc hc => by rw [upd_ne nc]; exact k3 c u nc hc) hd (Int.natAbs_ediv_le_natAbs _ _) (Int.natAbs_ediv_le_natAbs _ _)
theorem mkR {C : Addr} {H : Hp} {p q : Int} {R : VK} {E : XK} {x dx : Addr} (nx : H x = none) (nd : H dx = none) (ndx : dx ≠ x) (hq : 0 < q) (sq : Sz 900 q) (h : ∀ H' t b, Same H H' → RatAt C H' x t b → IsR t b p q → t.natAbs ≤ p.natAbs → b.natAbs ≤ q.natAbs → R .non H') :
    spRInit C [.ref x, .int p, .int q] (upd (upd H dx (.own x)) x (.ins C dx [])) R E := by
  have hx2 : upd H dx (.own x) x = none := by rw [upd_ne (fun z => ndx z.symm)]; exact nx
  have s := (same_upd nd (o := .own x)).trans (same_upd hx2 (o := .ins C dx []))
  exact ⟨x, dx, p, q, rfl, upd_same, hq, sq, fun H' t b hr kk hi l1 l2 => h H' t b (fun c u hc => kk c u (ne_of_none hc nx) (s c u hc)) hr hi l1 l2⟩
theorem ok_ratio_of (T : Txt K mg a) : FnOk P w K mg base CX0 3 a.f_ratio_of a.d_ratio_of P_ratio_of (spRof a.c_Ratio) := by
  refine T.F_ratio_of.ok sc_ratio_of (fun vs H Q E h => ?_) (fun cdv A outer s H vs Q E hr h => ?_)
  · obtain ⟨y, p, q, rfl, _⟩ := h
    rfl
  · obtain ⟨y, p, q, rfl, hy, k⟩ := h
    refine ⟨_, (pss_one (ps_ret (pe_ifExp (pt_val (pe_callB call_isi (by rfl) T.z_isinstance (by decide +kernel) (pa_cons (pv 0) (pa_cons (pe_glob (v := .ref a.c_Ratio) (by rfl) T.g_Ratio rfl) pa_nil)))) (pv 0) (pe_make T.mk_Ratio (ok_Ratio_init T) (hr.mono (by decide)) (by rfl) T.g_Ratio T.bd_Ratio_init T.vd_Ratio_init pass0 (pa_cons (pv 0) pa_nil))))), ?_⟩
    rcases hy with ⟨rfl, rfl⟩ | ⟨b, rfl, dx, hb⟩
    · refine ⟨_, rfl, _, _, _, _, false, rfl, .own _, .base (.int _), T.ki_Ratio, _, rfl, iteF ⟨_, rfl, fun x dx nx nd ndx => ?_⟩⟩
      refine mkR (p := p) (q := 1) nx nd ndx (by decide) (by unfold Sz; exact Nat.one_lt_two_pow (by decide)) fun H' t b e hr hi _ _ => ?_
      obtain ⟨rfl, rfl⟩ := isR_int hi
      exact ⟨rfl, k H' x e hr⟩
    · refine ⟨_, rfl, _, .ref a.c_Ratio, _, _, true, rfl, .own _, .base (.ins hb T.cl_Ratio T.ic_Ratio.1 T.ic_Ratio.2.1 T.ic_Ratio.2.2.1 T.ic_Ratio.2.2.2), T.is_Ratio, _, rfl, iteT ⟨_, rfl, k H b (Same.refl _) ⟨dx, hb⟩⟩⟩
theorem ok_Ratio_add (T : Txt K mg a) : FnOk P w K mg base CX0 5 a.f_Ratio_add a.d_Ratio_add P_Ratio_add (spRAdd a.c_Ratio) := by
  refine T.F_Ratio_add.ok sc_Ratio_add (fun vs H Q E h => ?_) (fun cdv A outer s H vs Q E hr h => ?_)
  · obtain ⟨x, y, t1, b1, t2, b2, rfl, _⟩ := h
    rfl
  · obtain ⟨x, y, t1, b1, t2, b2, rfl, ⟨dx, hx⟩, hy, p1, p2, s1, s2, s3, s4, k⟩ := h
    refine ⟨_, (Evl.pss_cut (ps_set (i := 2) sc_Ratio_add.nd rfl (Or.inl rfl) (pe_call (ok_ratio_of T) (hr.mono (by decide)) (by rfl) T.g_ratio_of T.k_ratio_of T.b_ratio_of .nil pass0 (pa_cons (pv 1) pa_nil)))
  (pss_one (ps_ret (pe_make T.mk_Ratio (ok_Ratio_init T) (hr.mono (by decide)) (by rfl) T.g_Ratio T.b_Ratio_init .nil pass0 (pa_cons (pe_op op_add (pe_op op_mulW (pe_fld (pv 0) (by rfl)) (pe_fld (pv 2) (by rfl))) (pe_op op_mulW (pe_fld (pv 2) (by rfl)) (pe_fld (pv 0) (by rfl)))) (pa_cons (pe_op op_mulW (pe_fld (pv 0) (by rfl)) (pe_fld (pv 2) (by rfl))) pa_nil)))))), ?_⟩
    refine ⟨fun σ H1 => ∃ z dz, σ = [some (.ref x), some y, some (.ref z)] ∧ Same H H1 ∧ H1 z = some (.ins a.c_Ratio dz [("top", .int t2), ("bottom", .int b2)]), ?_, ?_⟩
    · exact ⟨_, rfl, y, t2, b2, rfl, hy, fun H' r e ⟨dz, hr⟩ => ⟨r, dz, rfl, e, hr⟩⟩
    rintro σ H1 ⟨z, dz, rfl, e1, hz⟩
    have hx1 := e1 _ _ hx
    exact ⟨_, rfl, x, _, dx, _, _, rfl, hx1, T.cl_Ratio, T.nA_Ratio_top, rfl, _, rfl, z, _, dz, _, _, rfl, hz, T.cl_Ratio, T.nA_Ratio_bottom, rfl, _, _, rfl, rfl, (s1).mulW (s4) (by decide), _, rfl, z, _, dz, _, _, rfl, hz, T.cl_Ratio, T.nA_Ratio_top, rfl, _, rfl, x, _, dx, _, _, rfl, hx1, T.cl_Ratio, T.nA_Ratio_bottom, rfl, _, _, rfl, rfl, (s3).mulW (s2) (by decide), _, _, rfl, rfl, _, rfl, x, _, dx, _, _, rfl, hx1, T.cl_Ratio, T.nA_Ratio_bottom, rfl, _, rfl, z, _, dz, _, _, rfl, hz, T.cl_Ratio, T.nA_Ratio_bottom, rfl, _, _, rfl, rfl, (s2).mulW (s4) (by decide), fun y dy ny nd ndy => mkR ny nd ndy (Int.mul_pos p1 p2) ((s2.mul s4).mono (by decide)) fun H' t b e hr hi l1 l2 => ⟨rfl, k H' y t b (e1.trans e) hr hi l1 l2⟩⟩
theorem ok_Ratio_neg (T : Txt K mg a) : FnOk P w K mg base CX0 3 a.f_Ratio_neg a.d_Ratio_neg P_Ratio_neg (spRNeg a.c_Ratio) := by
  refine T.F_Ratio_neg.ok sc_Ratio_neg (fun vs H Q E h => ?_) (fun cdv A outer s H vs Q E hr h => ?_)
  · obtain ⟨x, t1, b1, rfl, _⟩ := h
    rfl
  · obtain ⟨x, t1, b1, rfl, ⟨dx, hx1⟩, p1, s2, k⟩ := h
    refine ⟨_, (pss_one (ps_ret (pe_make T.mk_Ratio (ok_Ratio_init T) (hr.mono (by decide)) (by rfl) T.g_Ratio T.b_Ratio_init .nil pass0 (pa_cons (pe_un un_neg (pe_fld (pv 0) (by rfl))) (pa_cons (pe_fld (pv 0) (by rfl)) pa_nil))))), ?_⟩
    exact ⟨_, rfl, x, _, dx, _, _, rfl, hx1, T.cl_Ratio, T.nA_Ratio_top, rfl, _, rfl, _, rfl, x, _, dx, _, _, rfl, hx1, T.cl_Ratio, T.nA_Ratio_bottom, rfl, fun y dy ny nd ndy => mkR ny nd ndy p1 (s2.mono (by decide)) fun H' t b e hr hi l1 l2 => ⟨rfl, k H' y t b e hr hi l1 l2⟩⟩
theorem isR_neg {t b p q : Int} (h : Nrm p q) (hi : IsR t b (-p) q) : t = -p ∧ b = q := by
  obtain ⟨⟨b0, hg⟩, e⟩ := hi
  obtain ⟨q0, hq⟩ := h
  have e2 := congrArg Int.natAbs e
  rw [Int.natAbs_mul, Int.natAbs_mul, Int.natAbs_neg] at e2
  have d1 : b.natAbs ∣ q.natAbs := by
    have : b.natAbs ∣ t.natAbs * q.natAbs := by rw [e2]; exact Nat.dvd_mul_left _ _
    exact (Nat.Coprime.symm (show Nat.Coprime t.natAbs b.natAbs from hg)).dvd_of_dvd_mul_left this
  have d2 : q.natAbs ∣ b.natAbs := by
    have : q.natAbs ∣ p.natAbs * b.natAbs := by rw [← e2]; exact Nat.dvd_mul_left _ _
    exact (Nat.Coprime.symm (show Nat.Coprime p.natAbs q.natAbs from hq)).dvd_of_dvd_mul_left this
  have hb : b = q := by have := Nat.dvd_antisymm d1 d2; omega
  subst hb
  exact ⟨Int.eq_of_mul_eq_mul_right (by omega) e, rfl⟩
theorem ok_Ratio_sub (T : Txt K mg a) : FnOk P w K mg base CX0 7 a.f_Ratio_sub a.d_Ratio_sub P_Ratio_sub (spRSub a.c_Ratio) := by
  refine T.F_Ratio_sub.ok sc_Ratio_sub (fun vs H Q E h => ?_) (fun cdv A outer s H vs Q E hr h => ?_)
  · obtain ⟨x, y, t1, b1, t2, b2, rfl, _⟩ := h
    rfl
  · obtain ⟨x, y, t1, b1, t2, b2, rfl, ⟨dx, hx⟩, hy, n1, n2, s1, s2, s3, s4, k⟩ := h
    refine ⟨_, (pss_one (ps_ret (pe_op (op_own (ok_Ratio_add T) (hr.mono (by decide)) T.s_Ratio_add T.i_Ratio_add T.sf_Ratio T.b_Ratio_add pass0) (pv 0) (pe_un (un_negOwn (ok_Ratio_neg T) (hr.mono (by decide)) T.s_Ratio_neg T.i_Ratio_neg T.b_Ratio_neg pass0) (pe_call (ok_ratio_of T) (hr.mono (by decide)) (by rfl) T.g_ratio_of T.k_ratio_of T.b_ratio_of .nil pass0 (pa_cons (pv 1) pa_nil)))))), ?_⟩
    refine ⟨_, rfl, _, rfl, y, t2, b2, rfl, hy, fun H1 z e1 hz => ?_⟩
    obtain ⟨dz, hz'⟩ := id hz
    refine ⟨z, dz, _, rfl, hz', z, t2, b2, rfl, hz, n2.1, s4, fun H2 r t b e2 hr2 hi l1 l2 => ?_⟩
    obtain ⟨rfl, rfl⟩ := isR_neg n2 hi
    obtain ⟨dr, hr'⟩ := id hr2
    have e12 := e1.trans e2
    refine ⟨x, r, dx, dr, _, _, rfl, rfl, e12 _ _ hx, hr', x, .ref r, t1, b1, -t2, b, rfl, ⟨dx, e12 _ _ hx⟩, .inr ⟨r, rfl, hr2⟩, n1.1, n2.1, s1, s2, s3.neg, s4, fun H3 r3 t3 b3 e3 hr3 hi3 l3 l4 => ?_⟩
    exact k H3 r3 t3 b3 (e12.trans e3) hr3 hi3 l3 l4
theorem isR_sgn {t b p q : Int} (hi : IsR t b p q) (hq : 0 < q) : (t < 0 ↔ p < 0) ∧ (0 < t ↔ 0 < p) := by
  obtain ⟨⟨b0, _⟩, e⟩ := hi
  have m1 : ∀ {x y : Int}, 0 < x → 0 < y → 0 < x * y := fun h1 h2 => Int.mul_pos h1 h2
  have pos : 0 < t ↔ 0 < p := ⟨fun h => Int.not_le.mp fun z => by
      have h1 := m1 h hq
      have h2 := Int.mul_nonneg (a := -p) (b := b) (by omega) (by omega)
      rw [Int.neg_mul] at h2
      omega, fun h => Int.not_le.mp fun z => by
      have h1 := m1 h b0
      have h2 := Int.mul_nonneg (a := -t) (b := q) (by omega) (by omega)
      rw [Int.neg_mul] at h2
      omega⟩
  have neg : 0 < -t ↔ 0 < -p := ⟨fun h => Int.not_le.mp fun z => by
      have h1 := m1 h hq
      have h2 := Int.mul_nonneg (a := p) (b := b) (by omega) (by omega)
      rw [Int.neg_mul] at h1
      omega, fun h => Int.not_le.mp fun z => by
      have h1 := m1 h b0
      have h2 := Int.mul_nonneg (a := t) (b := q) (by omega) (by omega)
      rw [Int.neg_mul] at h1
      omega⟩
  exact ⟨⟨fun h => by have := neg.mp (by omega); omega, fun h => by have := neg.mpr (by omega); omega⟩, pos⟩
theorem ok_Ratio_lt (T : Txt K mg a) : FnOk P w K mg base CX0 9 a.f_Ratio_lt a.d_Ratio_lt P_Ratio_lt (spRCmp a.c_Ratio fun i j => decide (i < j)) := by
  refine T.F_Ratio_lt.ok sc_Ratio_lt (fun vs H Q E h => ?_) (fun cdv A outer s H vs Q E hr h => ?_)
  · obtain ⟨x, y, t1, b1, t2, b2, rfl, _⟩ := h
    rfl
  · obtain ⟨x, y, t1, b1, t2, b2, rfl, ⟨dx, hx⟩, hy, n1, n2, s1, s2, s3, s4, k⟩ := h
    refine ⟨_, (pss_one (ps_ret (pe_cmpR op_lt (pe_fld (pe_op (op_or2 (op_own (ok_Ratio_sub T) (hr.mono (by decide)) T.s_Ratio_sub T.i_Ratio_sub T.sf_Ratio T.b_Ratio_sub pass0) (op_ownI (ok_Ratio_sub T) (hr.mono (by decide)) T.s_Ratio_sub T.i_Ratio_sub T.sf_Ratio T.s_Ratio_rsub (.inr ⟨_, rfl⟩) (by rfl) (by rfl) (by rfl) T.b_Ratio_sub pass0)) (pv 0) (pv 1)) (by rfl)) pe_int (nomark _)))), ?_⟩
    have sub : ∀ {R : VK} {E : XK}, (∀ H' r dr t b, Same H H' → H' r = some (.ins a.c_Ratio dr [("top", .int t), ("bottom", .int b)]) → (t < 0 ↔ t1 * b2 < t2 * b1) ∧ (0 < t ↔ t2 * b1 < t1 * b2) → R (.ref r) H') → spRSub a.c_Ratio [.ref x, y] H R E := fun hR =>
      ⟨x, y, t1, b1, t2, b2, rfl, ⟨dx, hx⟩, hy, n1, n2, s1, s2, s3, s4, fun H' r t b e ⟨dr, hr⟩ hi _ _ => hR H' r dr t b e hr (by
        have h := isR_sgn hi (Int.mul_pos n1.1 n2.1)
        rw [Int.neg_mul] at h
        exact ⟨h.1.trans (by omega), h.2.trans (by omega)⟩)⟩
    have fin : ∀ t : Int, (t < 0 ↔ t1 * b2 < t2 * b1) ∧ (0 < t ↔ t2 * b1 < t1 * b2) → ∀ {H'}, Same H H' → Q (.bl (decide (t < 0))) H' := fun t ht H' e => by
      have := k H' e
      rw [show decide (t < 0) = decide ((t1 * b2) < (t2 * b1)) from decide_eq_decide.mpr (by omega)]
      exact this
    refine ⟨_, rfl, _, rfl, ?_⟩
    rcases id hy with ⟨rfl, rfl⟩ | ⟨z, rfl, dz, hz⟩
    · exact .inr ⟨x, dx, _, t2, rfl, rfl, hx, sub fun H' r dr t b e hr ht => ⟨r, _, dr, _, _, rfl, hr, T.cl_Ratio, T.nA_Ratio_top, rfl, _, _, rfl, rfl, fin t ht e⟩⟩
    · exact .inl ⟨x, z, dx, dz, _, _, rfl, rfl, hx, hz, sub fun H' r dr t b e hr ht => ⟨r, _, dr, _, _, rfl, hr, T.cl_Ratio, T.nA_Ratio_top, rfl, _, _, rfl, rfl, fin t ht e⟩⟩
theorem ok_Ratio_le (T : Txt K mg a) : FnOk P w K mg base CX0 9 a.f_Ratio_le a.d_Ratio_le P_Ratio_le (spRCmp a.c_Ratio fun i j => decide (i ≤ j)) := by
  refine T.F_Ratio_le.ok sc_Ratio_le (fun vs H Q E h => ?_) (fun cdv A outer s H vs Q E hr h => ?_)
  · obtain ⟨x, y, t1, b1, t2, b2, rfl, _⟩ := h
    rfl
  · obtain ⟨x, y, t1, b1, t2, b2, rfl, ⟨dx, hx⟩, hy, n1, n2, s1, s2, s3, s4, k⟩ := h
    refine ⟨_, (pss_one (ps_ret (pe_cmpR op_le (pe_fld (pe_op (op_or2 (op_own (ok_Ratio_sub T) (hr.mono (by decide)) T.s_Ratio_sub T.i_Ratio_sub T.sf_Ratio T.b_Ratio_sub pass0) (op_ownI (ok_Ratio_sub T) (hr.mono (by decide)) T.s_Ratio_sub T.i_Ratio_sub T.sf_Ratio T.s_Ratio_rsub (.inr ⟨_, rfl⟩) (by rfl) (by rfl) (by rfl) T.b_Ratio_sub pass0)) (pv 0) (pv 1)) (by rfl)) pe_int (nomark _)))), ?_⟩
    have sub : ∀ {R : VK} {E : XK}, (∀ H' r dr t b, Same H H' → H' r = some (.ins a.c_Ratio dr [("top", .int t), ("bottom", .int b)]) → (t < 0 ↔ t1 * b2 < t2 * b1) ∧ (0 < t ↔ t2 * b1 < t1 * b2) → R (.ref r) H') → spRSub a.c_Ratio [.ref x, y] H R E := fun hR =>
      ⟨x, y, t1, b1, t2, b2, rfl, ⟨dx, hx⟩, hy, n1, n2, s1, s2, s3, s4, fun H' r t b e ⟨dr, hr⟩ hi _ _ => hR H' r dr t b e hr (by
        have h := isR_sgn hi (Int.mul_pos n1.1 n2.1)
        rw [Int.neg_mul] at h
        exact ⟨h.1.trans (by omega), h.2.trans (by omega)⟩)⟩
    have fin : ∀ t : Int, (t < 0 ↔ t1 * b2 < t2 * b1) ∧ (0 < t ↔ t2 * b1 < t1 * b2) → ∀ {H'}, Same H H' → Q (.bl (decide (t ≤ 0))) H' := fun t ht H' e => by
      have := k H' e
      rw [show decide (t ≤ 0) = decide ((t1 * b2) ≤ (t2 * b1)) from decide_eq_decide.mpr (by omega)]
      exact this
    refine ⟨_, rfl, _, rfl, ?_⟩
    rcases id hy with ⟨rfl, rfl⟩ | ⟨z, rfl, dz, hz⟩
    · exact .inr ⟨x, dx, _, t2, rfl, rfl, hx, sub fun H' r dr t b e hr ht => ⟨r, _, dr, _, _, rfl, hr, T.cl_Ratio, T.nA_Ratio_top, rfl, _, _, rfl, rfl, fin t ht e⟩⟩
    · exact .inl ⟨x, z, dx, dz, _, _, rfl, rfl, hx, hz, sub fun H' r dr t b e hr ht => ⟨r, _, dr, _, _, rfl, hr, T.cl_Ratio, T.nA_Ratio_top, rfl, _, _, rfl, rfl, fin t ht e⟩⟩
theorem ok_Ratio_gt (T : Txt K mg a) : FnOk P w K mg base CX0 9 a.f_Ratio_gt a.d_Ratio_gt P_Ratio_gt (spRCmp a.c_Ratio fun i j => decide (j < i)) := by
  refine T.F_Ratio_gt.ok sc_Ratio_gt (fun vs H Q E h => ?_) (fun cdv A outer s H vs Q E hr h => ?_)
  · obtain ⟨x, y, t1, b1, t2, b2, rfl, _⟩ := h
    rfl
  · obtain ⟨x, y, t1, b1, t2, b2, rfl, ⟨dx, hx⟩, hy, n1, n2, s1, s2, s3, s4, k⟩ := h
    refine ⟨_, (pss_one (ps_ret (pe_cmpR op_gt (pe_fld (pe_op (op_or2 (op_own (ok_Ratio_sub T) (hr.mono (by decide)) T.s_Ratio_sub T.i_Ratio_sub T.sf_Ratio T.b_Ratio_sub pass0) (op_ownI (ok_Ratio_sub T) (hr.mono (by decide)) T.s_Ratio_sub T.i_Ratio_sub T.sf_Ratio T.s_Ratio_rsub (.inr ⟨_, rfl⟩) (by rfl) (by rfl) (by rfl) T.b_Ratio_sub pass0)) (pv 0) (pv 1)) (by rfl)) pe_int (nomark _)))), ?_⟩
    have sub : ∀ {R : VK} {E : XK}, (∀ H' r dr t b, Same H H' → H' r = some (.ins a.c_Ratio dr [("top", .int t), ("bottom", .int b)]) → (t < 0 ↔ t1 * b2 < t2 * b1) ∧ (0 < t ↔ t2 * b1 < t1 * b2) → R (.ref r) H') → spRSub a.c_Ratio [.ref x, y] H R E := fun hR =>
      ⟨x, y, t1, b1, t2, b2, rfl, ⟨dx, hx⟩, hy, n1, n2, s1, s2, s3, s4, fun H' r t b e ⟨dr, hr⟩ hi _ _ => hR H' r dr t b e hr (by
        have h := isR_sgn hi (Int.mul_pos n1.1 n2.1)
        rw [Int.neg_mul] at h
        exact ⟨h.1.trans (by omega), h.2.trans (by omega)⟩)⟩
    have fin : ∀ t : Int, (t < 0 ↔ t1 * b2 < t2 * b1) ∧ (0 < t ↔ t2 * b1 < t1 * b2) → ∀ {H'}, Same H H' → Q (.bl (decide (0 < t))) H' := fun t ht H' e => by
      have := k H' e
      rw [show decide (0 < t) = decide ((t2 * b1) < (t1 * b2)) from decide_eq_decide.mpr (by omega)]
      exact this
    refine ⟨_, rfl, _, rfl, ?_⟩
    rcases id hy with ⟨rfl, rfl⟩ | ⟨z, rfl, dz, hz⟩
    · exact .inr ⟨x, dx, _, t2, rfl, rfl, hx, sub fun H' r dr t b e hr ht => ⟨r, _, dr, _, _, rfl, hr, T.cl_Ratio, T.nA_Ratio_top, rfl, _, _, rfl, rfl, fin t ht e⟩⟩
    · exact .inl ⟨x, z, dx, dz, _, _, rfl, rfl, hx, hz, sub fun H' r dr t b e hr ht => ⟨r, _, dr, _, _, rfl, hr, T.cl_Ratio, T.nA_Ratio_top, rfl, _, _, rfl, rfl, fin t ht e⟩⟩
theorem ok_Ratio_ge (T : Txt K mg a) : FnOk P w K mg base CX0 9 a.f_Ratio_ge a.d_Ratio_ge P_Ratio_ge (spRCmp a.c_Ratio fun i j => decide (j ≤ i)) := by
  refine T.F_Ratio_ge.ok sc_Ratio_ge (fun vs H Q E h => ?_) (fun cdv A outer s H vs Q E hr h => ?_)
  · obtain ⟨x, y, t1, b1, t2, b2, rfl, _⟩ := h
    rfl
  · obtain ⟨x, y, t1, b1, t2, b2, rfl, ⟨dx, hx⟩, hy, n1, n2, s1, s2, s3, s4, k⟩ := h
    refine ⟨_, (pss_one (ps_ret (pe_cmpR op_ge (pe_fld (pe_op (op_or2 (op_own (ok_Ratio_sub T) (hr.mono (by decide)) T.s_Ratio_sub T.i_Ratio_sub T.sf_Ratio T.b_Ratio_sub pass0) (op_ownI (ok_Ratio_sub T) (hr.mono (by decide)) T.s_Ratio_sub T.i_Ratio_sub T.sf_Ratio T.s_Ratio_rsub (.inr ⟨_, rfl⟩) (by rfl) (by rfl) (by rfl) T.b_Ratio_sub pass0)) (pv 0) (pv 1)) (by rfl)) pe_int (nomark _)))), ?_⟩
    have sub : ∀ {R : VK} {E : XK}, (∀ H' r dr t b, Same H H' → H' r = some (.ins a.c_Ratio dr [("top", .int t), ("bottom", .int b)]) → (t < 0 ↔ t1 * b2 < t2 * b1) ∧ (0 < t ↔ t2 * b1 < t1 * b2) → R (.ref r) H') → spRSub a.c_Ratio [.ref x, y] H R E := fun hR =>
      ⟨x, y, t1, b1, t2, b2, rfl, ⟨dx, hx⟩, hy, n1, n2, s1, s2, s3, s4, fun H' r t b e ⟨dr, hr⟩ hi _ _ => hR H' r dr t b e hr (by
        have h := isR_sgn hi (Int.mul_pos n1.1 n2.1)
        rw [Int.neg_mul] at h
        exact ⟨h.1.trans (by omega), h.2.trans (by omega)⟩)⟩
    have fin : ∀ t : Int, (t < 0 ↔ t1 * b2 < t2 * b1) ∧ (0 < t ↔ t2 * b1 < t1 * b2) → ∀ {H'}, Same H H' → Q (.bl (decide (0 ≤ t))) H' := fun t ht H' e => by
      have := k H' e
      rw [show decide (0 ≤ t) = decide ((t2 * b1) ≤ (t1 * b2)) from decide_eq_decide.mpr (by omega)]
      exact this
    refine ⟨_, rfl, _, rfl, ?_⟩
    rcases id hy with ⟨rfl, rfl⟩ | ⟨z, rfl, dz, hz⟩
    · exact .inr ⟨x, dx, _, t2, rfl, rfl, hx, sub fun H' r dr t b e hr ht => ⟨r, _, dr, _, _, rfl, hr, T.cl_Ratio, T.nA_Ratio_top, rfl, _, _, rfl, rfl, fin t ht e⟩⟩
    · exact .inl ⟨x, z, dx, dz, _, _, rfl, rfl, hx, hz, sub fun H' r dr t b e hr ht => ⟨r, _, dr, _, _, rfl, hr, T.cl_Ratio, T.nA_Ratio_top, rfl, _, _, rfl, rfl, fin t ht e⟩⟩
theorem nrm_eq {t1 b1 t2 b2 : Int} (h1 : Nrm t1 b1) (h2 : Nrm t2 b2) : (t1 = t2 ∧ b1 = b2) ↔ t1 * b2 = t2 * b1 := by
  constructor
  · rintro ⟨rfl, rfl⟩
    rfl
  · intro e
    obtain ⟨b10, g1⟩ := h1
    obtain ⟨b20, g2⟩ := h2
    have e2 := congrArg Int.natAbs e
    rw [Int.natAbs_mul, Int.natAbs_mul] at e2
    have d1 : b1.natAbs ∣ b2.natAbs := by
      have : b1.natAbs ∣ t1.natAbs * b2.natAbs := by rw [e2]; exact Nat.dvd_mul_left _ _
      exact (Nat.Coprime.symm (show Nat.Coprime t1.natAbs b1.natAbs from g1)).dvd_of_dvd_mul_left this
    have d2 : b2.natAbs ∣ b1.natAbs := by
      have : b2.natAbs ∣ t2.natAbs * b1.natAbs := by rw [← e2]; exact Nat.dvd_mul_left _ _
      exact (Nat.Coprime.symm (show Nat.Coprime t2.natAbs b2.natAbs from g2)).dvd_of_dvd_mul_left this
    have hb : b1 = b2 := by have := Nat.dvd_antisymm d1 d2; omega
    subst hb
    exact ⟨Int.eq_of_mul_eq_mul_right (by omega) e, rfl⟩
theorem ok_Ratio_eq (T : Txt K mg a) : FnOk P w K mg base CX0 3 a.f_Ratio_eq a.d_Ratio_eq P_Ratio_eq (spRCmp a.c_Ratio fun i j => decide (i = j)) := by
  refine T.F_Ratio_eq.ok sc_Ratio_eq (fun vs H Q E h => ?_) (fun cdv A outer s H vs Q E hr h => ?_)
  · obtain ⟨x, y, t1, b1, t2, b2, rfl, _⟩ := h
    rfl
  · obtain ⟨x, y, t1, b1, t2, b2, rfl, ⟨dx, hx⟩, hy, n1, n2, s1, s2, s3, s4, k⟩ := h
    refine ⟨_, (pss_cons (ps_if (pt_val (pe_callB call_isi (by rfl) T.z_isinstance (by decide +kernel) (pa_cons (pv 1) (pa_cons (pe_glob (v := .ref a.c_Ratio) (by rfl) T.g_Ratio rfl) pa_nil))))
    (pss_one (ps_ret (pe_and (pe_cmpR op_eq (pe_fld (pv 0) (by rfl)) (pe_fld (pv 1) (by rfl)) (nomark _)) (pe_one (pe_cmpR op_eq (pe_fld (pv 0) (by rfl)) (pe_fld (pv 1) (by rfl)) (nomark _))))))
    pss_nil)
  (pss_one (ps_ret (pe_and (pe_callB call_isi (by rfl) T.z_isinstance (by decide +kernel) (pa_cons (pv 1) (pa_cons (pe_bltn (v := .ty "int") (by rfl) T.z_int (by decide +kernel) rfl) pa_nil))) (pe_and (pe_cmpR op_eq (pe_fld (pv 0) (by rfl)) pe_int (nomark _)) (pe_one (pe_cmpR op_eq (pe_fld (pv 0) (by rfl)) (pv 1) (nomark _)))))))), ?_⟩
    have key := nrm_eq n1 n2
    have k := k H (Same.refl _)
    have fin : ∀ b : Bool, (b = true ↔ (t1 = t2 ∧ b1 = b2)) → Q (.bl b) H := fun b hb => by
      rw [show b = decide (t1 * b2 = t2 * b1) from by rw [Bool.eq_iff_iff, hb, decide_eq_true_eq]; exact key]
      exact k
    rcases id hy with ⟨rfl, rfl⟩ | ⟨z, rfl, dz, hz⟩
    · refine ⟨_, rfl, _, _, _, _, false, rfl, .own _, .base (.int _), T.ki_Ratio, _, rfl, iteF ?_⟩
      refine ⟨_, rfl, _, _, _, _, true, rfl, .ty _, .base (.int _), if_pos (beq_self_eq_true _), _, rfl, iteT ?_⟩
      refine ⟨_, rfl, x, _, dx, _, _, rfl, hx, T.cl_Ratio, T.nA_Ratio_bottom, rfl, rfl, _, rfl, ?_⟩
      by_cases hb : b1 = 1
      · rw [show decide (V.int b1 = V.int 1) = true by simp [hb]]
        refine iteT ⟨_, rfl, x, _, dx, _, _, rfl, hx, T.cl_Ratio, T.nA_Ratio_top, rfl, _, rfl, rfl, fin _ ?_⟩
        simp [hb]
      · rw [show decide (V.int b1 = V.int 1) = false by simp [hb]]
        exact iteF (fin _ (by simp [hb]))
    · refine ⟨_, rfl, _, .ref a.c_Ratio, _, _, true, rfl, .own _, .base (.ins hz T.cl_Ratio T.ic_Ratio.1 T.ic_Ratio.2.1 T.ic_Ratio.2.2.1 T.ic_Ratio.2.2.2), T.is_Ratio, _, rfl, iteT ?_⟩
      refine ⟨_, rfl, x, _, dx, _, _, rfl, hx, T.cl_Ratio, T.nA_Ratio_top, rfl, _, rfl, z, _, dz, _, _, rfl, hz, T.cl_Ratio, T.nA_Ratio_top, rfl, rfl, _, rfl, ?_⟩
      by_cases ht : t1 = t2
      · rw [show decide (V.int t1 = V.int t2) = true by simp [ht]]
        refine iteT ⟨_, rfl, x, _, dx, _, _, rfl, hx, T.cl_Ratio, T.nA_Ratio_bottom, rfl, _, rfl, z, _, dz, _, _, rfl, hz, T.cl_Ratio, T.nA_Ratio_bottom, rfl, rfl, fin _ ?_⟩
        simp [ht]
      · rw [show decide (V.int t1 = V.int t2) = false by simp [ht]]
        exact iteF (fin _ (by simp [ht]))
end
end K45

namespace K45
open PySem PySem.Spec PyProof.Rows L2
section
variable {P : Program} {w : World} {K : PySem.W.Frag} {mg : Str → Option Value} {base : Heap} {a : Ad}
/-- the pool of one script number -/
def PlAt (H : Hp) (p : Addr) : Prop := ∃ b m : Int, H p = some (.lst [.int b, .int m]) ∧ 0 ≤ m ∧ m < 2147483647
def spPl (K : PySem.W.Frag) : Sp := fun vs H Q _ => ∃ (x : Addr) (ns : List Int) (k : Nat), vs = [.ref x, .int (k : Int)] ∧ SqL K H x (ns.map V.int) ∧ k < 100 ∧ ∀ p b m, H p = none → 0 ≤ m → m < 2147483647 → Q (.ref p) (upd H p (.lst [.int b, .int m]))
theorem ok_l_pool (T : Txt K mg a) : FnOk P w K mg base CX0 1 a.f_l_pool a.d_l_pool P_l_pool (spPl K) := by
  refine T.F_l_pool.ok sc_l_pool (fun vs H Q E h => ?_) (fun cdv A outer s H vs Q E hr h => ?_)
  · obtain ⟨x, ns, k, rfl, _⟩ := h
    rfl
  · obtain ⟨x, ns, kk, rfl, hx, hk, k⟩ := h
    refine ⟨_, (Evl.pss_cut (ps_set (i := 2) sc_l_pool.nd rfl (Or.inl rfl) pe_int)
  (Evl.pss_cut (ps_if (pt_cmpR op_lt (pv 1) (pe_callB call_len_seq (by rfl) T.z_len (by decide +kernel) (pa_cons (pv 0) pa_nil)) (nomark _))
    (pss_one (ps_set (i := 2) sc_l_pool.nd rfl (Or.inl rfl) (pe_ix ix_list (pv 0) (pv 1) (by intro _ _; rfl))))
    pss_nil)
  (Evl.pss_cut (ps_set (i := 3) sc_l_pool.nd rfl (Or.inl rfl) (pe_callB (call_max2 rfl) (by rfl) T.z_max (by decide +kernel) (pa_cons (pe_callTy call_int1 (by rfl) T.z_int (by decide +kernel) (pa_cons (pv 2) pa_nil)) (pa_cons (pe_callTy call_int1 (by rfl) T.z_int (by decide +kernel) (pa_cons (pe_op op_sub (pe_un un_neg pe_int) (pv 2)) pa_nil)) pa_nil))))
  (Evl.pss_cut (ps_set (i := 4) sc_l_pool.nd rfl (Or.inl rfl) (pe_op op_mod (pe_callTy call_int1 (by rfl) T.z_int (by decide +kernel) (pa_cons (pe_op op_mul (pe_op op_add (pe_op op_add (pe_op op_add (pe_op op_mod (pe_callTy call_int1 (by rfl) T.z_int (by decide +kernel) (pa_cons (pv 3) pa_nil)) pe_int) (pe_op op_mul (pe_op op_mul pe_int (pv 1)) (pv 1))) (pe_op op_mul pe_int (pv 1))) pe_int) pe_int) pa_nil)) pe_int))
  (pss_one (ps_ret (pe_lst (pa_cons (pe_op op_mul (pv 3) (pe_callTy call_int1 (by rfl) T.z_int (by decide +kernel) (pa_cons (pe_cmpR op_ge (pv 3) (pe_op op_pow pe_int pe_int) (nomark _)) pa_nil))) (pa_cons (pv 4) pa_nil))))))))), ?_⟩
    refine ⟨fun σ H1 => σ = [some (.ref x), some (.int (kk : Int)), some (.int 0), none, none] ∧ H1 = H, ⟨rfl, rfl⟩, ?_⟩
    rintro σ H1 ⟨rfl, rfl⟩
    refine ⟨fun σ H2 => ∃ c : Int, σ = [some (.ref x), some (.int (kk : Int)), some (.int c), none, none] ∧ H2 = H1, ?_, ?_⟩
    · refine ⟨_, rfl, _, rfl, x, _, rfl, .inl hx, _, _, rfl, rfl, _, rfl, ite2 (fun h => ?_) (fun h => ⟨0, rfl, rfl⟩)⟩
      have h : (kk : Int) < ((ns.map V.int).length : Nat) := of_decide_eq_true h
      rw [List.length_map] at h
      have hl : kk < ns.length := by omega
      exact ⟨_, rfl, _, rfl, x, _, (kk : Int), _, rfl, rfl, hx, atI_nat (by rw [List.getElem?_map, List.getElem?_eq_getElem hl]; rfl), ns[kk], rfl, rfl⟩
    rintro σ H2 ⟨c, rfl, rfl⟩
    refine ⟨fun σ H3 => ∃ g : Int, σ = [some (.ref x), some (.int (kk : Int)), some (.int c), some (.int g), none] ∧ H3 = H2, ?_, ?_⟩
    · exact ⟨_, rfl, .inl ⟨_, rfl, _, rfl, _, rfl, _, _, rfl, rfl, .inl ⟨_, rfl, _, _, rfl, _, rfl, rfl⟩⟩⟩
    rintro σ H3 ⟨g, rfl, rfl⟩
    refine ⟨fun σ H4 => ∃ m : Int, 0 ≤ m ∧ m < 2147483647 ∧ σ = [some (.ref x), some (.int (kk : Int)), some (.int c), some (.int g), some (.int m)] ∧ H4 = H3, ?_, ?_⟩
    · refine ⟨_, rfl, .inl ⟨_, rfl, _, 2147483629, rfl, rfl, (by show (0 : Int) < 2147483629; decide), _, rfl, _, _, rfl, rfl, .inr ⟨by omega, by omega⟩, _, rfl, _, _, rfl, rfl, .inr ⟨by omega, by omega⟩, _, _, rfl, rfl, _, rfl, _, _, rfl, rfl, .inr ⟨by omega, by omega⟩, _, _, rfl, rfl, _, _, rfl, rfl, _, 48271, rfl, rfl, .inr ⟨by decide, by decide⟩, .inl ⟨_, rfl, _, 2147483647, rfl, rfl, (by show (0 : Int) < 2147483647; decide), ?_⟩⟩⟩
      exact ⟨_, Int.emod_nonneg _ (by decide), Int.emod_lt_of_pos _ (by decide), rfl, rfl⟩
    rintro σ H4 ⟨m, m0, m1, rfl, rfl⟩
    refine ⟨_, rfl, _, rfl, _, 18, rfl, rfl, ⟨by decide, by decide, by decide⟩, _, _, rfl, rfl, .inr ⟨_, rfl, _, _, rfl, rfl, .inr ⟨?_, ?_⟩, _, rfl, by show 2 ≤ sizeLine; decide, fun p np => k p _ m np m0 m1⟩⟩
    · split <;> decide
    · split <;> decide
def spTk : Sp := fun vs H Q _ => ∃ (p : Addr) (b : Int), vs = [.ref p, .int b] ∧ PlAt H p ∧ 0 < b ∧ b < 2 ^ 200 ∧ ∀ H' r, (∀ c u, c ≠ p → H c = some u → H' c = some u) → PlAt H' p → 0 ≤ r → r < b → Q (.int r) H'
theorem ok_l_take (T : Txt K mg a) : FnOk P w K mg base CX0 1 a.f_l_take a.d_l_take P_l_take spTk := by
  refine T.F_l_take.ok sc_l_take (fun vs H Q E h => ?_) (fun cdv A outer s H vs Q E hr h => ?_)
  · obtain ⟨p, b, rfl, _⟩ := h
    rfl
  · obtain ⟨p, lim, rfl, ⟨b, m, hp, m0, m1⟩, l0, l1, k⟩ := h
    refine ⟨_, (Evl.pss_cut (ps_if (pt_cmpR op_gt (pe_ix ix_list (pv 0) pe_int (by intro _ _; rfl)) pe_int (nomark _))
    (pss_cons (ps_set (i := 2) sc_l_take.nd rfl (Or.inl rfl) (pe_op op_mod (pe_callTy call_int1 (by rfl) T.z_int (by decide +kernel) (pa_cons (pe_ix ix_list (pv 0) pe_int (by intro _ _; rfl)) pa_nil)) (pv 1)))
  (pss_cons (ps_asg (pe_op op_fdivW (pe_ix ix_list (pv 0) pe_int (by intro _ _; rfl)) (pv 1)) (pg_sub (pv 0) pe_int set_list))
  (pss_one (ps_ret (pv 2)))))
    pss_nil)
  (Evl.pss_cut (ps_asg (pe_op op_mod (pe_callTy call_int1 (by rfl) T.z_int (by decide +kernel) (pa_cons (pe_op op_add (pe_op op_mul (pe_ix ix_list (pv 0) pe_int (by intro _ _; rfl)) pe_int) pe_int) pa_nil)) pe_int) (pg_sub (pv 0) pe_int set_list))
  (pss_one (ps_ret (pe_op op_mod (pe_callTy call_int1 (by rfl) T.z_int (by decide +kernel) (pa_cons (pe_op op_fdivW (pe_op op_mod (pe_callTy call_int1 (by rfl) T.z_int (by decide +kernel) (pa_cons (pe_op op_mul (pe_ix ix_list (pv 0) pe_int (by intro _ _; rfl)) (pe_ix ix_list (pv 0) pe_int (by intro _ _; rfl))) pa_nil)) pe_int) pe_int) pa_nil)) (pv 1)))))), ?_⟩
    have wd : ∀ i, CDivW i lim := fun i => wide_div (i := i) (b := 200) l0 (by omega) (by decide) (by decide)
    refine ⟨fun σ H1 => σ = [some (.ref p), some (.int lim), none] ∧ H1 = H, ?_, ?_⟩
    · refine ⟨_, rfl, p, _, 0, _, rfl, rfl, lst_of hp, rfl, _, _, rfl, rfl, _, rfl, ite2 (fun h => ?_) (fun h => ⟨rfl, rfl⟩)⟩
      refine ⟨_, rfl, p, _, 0, _, rfl, rfl, lst_of hp, rfl, .inl ⟨_, rfl, _, rfl, _, _, rfl, rfl, l0, ?_⟩⟩
      refine ⟨_, rfl, p, _, 0, _, rfl, rfl, lst_of hp, rfl, _, rfl, _, _, rfl, rfl, wd _, _, rfl, p, _, 0, 0, rfl, rfl, hp, rfl, ?_⟩
      exact ⟨_, rfl, k _ _ (fun c u nc hc => by rw [upd_ne nc]; exact hc) ⟨_, m, upd_same, m0, m1⟩ (Int.emod_nonneg _ (by omega)) (Int.emod_lt_of_pos _ l0)⟩
    rintro σ H1 ⟨rfl, rfl⟩
    refine ⟨fun σ H2 => ∃ m' : Int, 0 ≤ m' ∧ m' < 2147483647 ∧ σ = [some (.ref p), some (.int lim), none] ∧ H2 = upd H1 p (.lst [.int b, .int m']), ?_, ?_⟩
    · refine ⟨_, rfl, p, _, 1, _, rfl, rfl, lst_of hp, rfl, _, 39373, rfl, rfl, .inr ⟨by decide, by decide⟩, _, _, rfl, rfl, .inl ⟨_, rfl, _, 2147483647, rfl, rfl, (by show (0 : Int) < 2147483647; decide), _, rfl, p, _, 1, 1, rfl, rfl, hp, rfl, ?_⟩⟩
      exact ⟨_, Int.emod_nonneg _ (by decide), Int.emod_lt_of_pos _ (by decide), rfl, rfl⟩
    rintro σ H2 ⟨m', m0', m1', rfl, rfl⟩
    have hp2 : upd H1 p (.lst [.int b, .int m']) p = some (.lst [.int b, .int m']) := upd_same
    refine ⟨_, rfl, p, _, 1, _, rfl, rfl, lst_of hp2, rfl, _, rfl, p, _, 1, _, rfl, rfl, lst_of hp2, rfl, _, _, rfl, rfl, .inl ⟨by omega, by omega⟩, .inl ⟨_, rfl, _, 2147483629, rfl, rfl, (by show (0 : Int) < 2147483629; decide), _, 32, rfl, rfl, ⟨by decide, by decide⟩, .inl ⟨_, rfl, _, rfl, _, _, rfl, rfl, l0, ?_⟩⟩⟩
    exact k _ _ (fun c u nc hc => by rw [upd_ne nc]; exact hc) ⟨_, _, hp2, m0', m1'⟩ (Int.emod_nonneg _ (by omega)) (Int.emod_lt_of_pos _ l0)
end
end K45

namespace K45
open PySem PySem.Spec PyProof.Rows L2
section
variable {P : Program} {w : World} {K : PySem.W.Frag} {mg : Str → Option Value} {base : Heap} {a : Ad}
def spNm : Sp := fun vs H Q _ => ∃ (p : Addr) (mo : Int), vs = [.ref p, .int mo] ∧ PlAt H p ∧ 3 ≤ mo ∧ mo < 2 ^ 130 ∧ ∀ H' r, (∀ c u, c ≠ p → H c = some u → H' c = some u) → PlAt H' p → -mo ≤ r → r ≤ mo → Q (.int r) H'
theorem ok_l_number (T : Txt K mg a) : FnOk P w K mg base CX0 3 a.f_l_number a.d_l_number P_l_number spNm := by
  refine T.F_l_number.ok sc_l_number (fun vs H Q E h => ?_) (fun cdv A outer s H vs Q E hr h => ?_)
  · obtain ⟨p, mo, rfl, _⟩ := h
    rfl
  · obtain ⟨p, mo, rfl, hp, m3, m4, k⟩ := h
    refine ⟨_, (Evl.pss_cut (ps_if (pt_cmpR op_gt (pe_call (ok_l_take T) (hr.mono (by decide)) (by rfl) T.g_l_take T.k_l_take T.b_l_take .nil pass0 (pa_cons (pv 0) (pa_cons pe_int pa_nil))) pe_int (nomark _))
    (pss_one (ps_ret (pe_op op_sub (pe_call (ok_l_take T) (hr.mono (by decide)) (by rfl) T.g_l_take T.k_l_take T.b_l_take .nil pass0 (pa_cons (pv 0) (pa_cons pe_int pa_nil))) pe_int)))
    pss_nil)
  (Evl.pss_cut (ps_set (i := 2) sc_l_number.nd rfl (Or.inl rfl) pe_int)
  (Evl.pss_cut (ps_for PassesOwn.never rfl (pi_range1 (by rfl) T.z_range (pa_cons pe_int pa_nil)) (pg_name (i := 3) sc_l_number.nd rfl (Or.inl rfl))
    (pss_one (ps_set (i := 2) sc_l_number.nd rfl (Or.inl rfl) (pe_op op_add (pe_op op_mulW (pv 2) (pe_op op_pow pe_int pe_int)) (pe_call (ok_l_take T) (hr.mono (by decide)) (by rfl) T.g_l_take T.k_l_take T.b_l_take .nil pass0 (pa_cons (pv 0) (pa_cons (pe_op op_pow pe_int pe_int) pa_nil)))))))
  (pss_one (ps_ret (pe_op op_sub (pe_op op_mod (pe_callTy call_int1 (by rfl) T.z_int (by decide +kernel) (pa_cons (pv 2) pa_nil)) (pe_op op_add (pe_op op_mulW pe_int (pv 1)) pe_int)) (pv 1))))))), ?_⟩
    refine ⟨fun σ H1 => σ = [some (.ref p), some (.int mo), none, none] ∧ (∀ c u, c ≠ p → H c = some u → H1 c = some u) ∧ PlAt H1 p, ?_, ?_⟩
    · refine ⟨_, rfl, p, 4, rfl, hp, by decide, by decide, fun H1 r f1 p1 r0 r1 => ⟨_, _, rfl, rfl, _, rfl, ite2 (fun h => ?_) (fun h => ⟨rfl, f1, p1⟩)⟩⟩
      exact ⟨_, rfl, p, 7, rfl, p1, by decide, by decide, fun H2 r2 f2 p2 r20 r21 => ⟨_, _, rfl, rfl, k H2 _ (fun c u nc hc => f2 c u nc (f1 c u nc hc)) p2 (by omega) (by omega)⟩⟩
    rintro σ H1 ⟨rfl, f1, p1⟩
    refine ⟨fun σ H2 => σ = [some (.ref p), some (.int mo), some (.int 0), none] ∧ H2 = H1, ⟨rfl, rfl⟩, ?_⟩
    rintro σ H2 ⟨rfl, rfl⟩
    refine ⟨fun σ H3 => ∃ (z : Int) (v : Option V), σ = [some (.ref p), some (.int mo), some (.int z), v] ∧ (∀ c u, c ≠ p → H c = some u → H3 c = some u) ∧ PlAt H3 p, ?_, ?_⟩
    · refine ⟨_, rfl, by decide, by decide, ?_⟩
      refine for_range (lo := 0) (n := 6) (fun i σ H3 => ∃ (z : Int) (v : Option V), σ = [some (.ref p), some (.int mo), some (.int z), v] ∧ Sz (27 * i + 1) z ∧ (∀ c u, c ≠ p → H c = some u → H3 c = some u) ∧ PlAt H3 p) ⟨0, _, rfl, by unfold Sz; decide, f1, p1⟩ ?_ (fun σ H3 ⟨z, v, h1, _, h2, h3⟩ => ⟨z, v, h1, h2, h3⟩)
      rintro i σ H3 hi ⟨z, v, rfl, hz, f3, p3⟩
      refine ⟨_, rfl, _, 26, rfl, rfl, ⟨by decide, by decide, by decide⟩, _, _, rfl, rfl, hz.mulW (l := 27) (j := 2 ^ 26) (by unfold Sz; decide) (by omega), _, rfl, _, 26, rfl, rfl, ⟨by decide, by decide, by decide⟩, p, 2 ^ 26, rfl, p3, by decide, by decide, fun H4 r f4 p4 r0 r1 => ⟨_, _, rfl, rfl, ?_⟩⟩
      refine ⟨_, _, rfl, ?_, fun c u nc hc => f4 c u nc (f3 c u nc hc), p4⟩
      unfold Sz at *
      show (z * 2 ^ 26 + r).natAbs < 2 ^ (27 * (i + 1) + 1)
      rw [show 27 * (i + 1) + 1 = 27 * i + 1 + 27 by omega, Nat.pow_add]
      have h1 := Int.natAbs_add_le (z * 2 ^ 26) r
      rw [Int.natAbs_mul] at h1
      have h2 : r.natAbs < 2 ^ 26 := by omega
      have h3 : ((2 : Int) ^ 26).natAbs = 2 ^ 26 := by decide
      rw [h3] at h1
      have h4 : z.natAbs * 2 ^ 26 + 2 ^ 26 ≤ 2 ^ (27 * i + 1) * 2 ^ 26 := by
        rw [← Nat.succ_mul]
        exact Nat.mul_le_mul_right _ hz
      have h5 : 2 ^ (27 * i + 1) * 2 ^ 26 ≤ 2 ^ (27 * i + 1) * 2 ^ 27 := Nat.mul_le_mul_left _ (by decide)
      omega
    rintro σ H3 ⟨z, v, rfl, f3, p3⟩
    refine ⟨_, rfl, .inl ⟨_, rfl, _, rfl, _, _, rfl, rfl, wide_mul (a := 2) (b := 131) (by decide) (by omega) (by decide) (by decide) (by decide), _, _, rfl, rfl, _, _, rfl, rfl, by omega, _, rfl, _, _, rfl, rfl, ?_⟩⟩
    have h1 := Int.emod_nonneg z (show 2 * mo + 1 ≠ 0 by omega)
    have h2 := Int.emod_lt_of_pos z (show 0 < 2 * mo + 1 by omega)
    exact k H3 _ f3 p3 (by omega) (by omega)
end
end K45

namespace K45
open PySem PySem.Spec PyProof.Rows L2
section
variable {P : Program} {w : World} {K : PySem.W.Frag} {mg : Str → Option Value} {base : Heap} {a : Ad}
/-- what _law_page and _law_due tell -/
def pgV (i j : Int) : List V := [.bl (decide (i < j)), .bl (decide (i ≤ j)), .bl (decide (i = j)), .bl (decide (j ≤ i)), .bl (decide (j < i))]
def spDue : Sp := fun vs H Q _ => ∃ (i j : Int), vs = [.int i, .int j] ∧ ∀ D, H D = none → Q (.ref D) (upd H D (.lst (pgV i j)))
theorem ok_l_due (T : Txt K mg a) : FnOk P w K mg base CX0 1 a.f_l_due a.d_l_due P_l_due spDue := by
  refine T.F_l_due.ok sc_l_due (fun vs H Q E h => ?_) (fun cdv A outer s H vs Q E hr h => ?_)
  · obtain ⟨i, j, rfl, _⟩ := h
    rfl
  · obtain ⟨i, j, rfl, k⟩ := h
    refine ⟨_, (pss_one (ps_ret (pe_lst (pa_cons (pe_cmpR op_lt (pv 0) (pv 1) (nomark _)) (pa_cons (pe_cmpR op_le (pv 0) (pv 1) (nomark _)) (pa_cons (pe_cmpR op_eq (pv 0) (pv 1) (nomark _)) (pa_cons (pe_cmpR op_ge (pv 0) (pv 1) (nomark _)) (pa_cons (pe_cmpR op_gt (pv 0) (pv 1) (nomark _)) pa_nil)))))))), ?_⟩
    refine ⟨_, rfl, _, rfl, _, _, rfl, rfl, _, rfl, _, rfl, _, _, rfl, rfl, _, rfl, _, rfl, rfl, _, rfl, _, rfl, _, _, rfl, rfl, _, rfl, _, rfl, _, _, rfl, rfl, by show 5 ≤ sizeLine; decide, fun D nD => ?_⟩
    have := k D nD
    unfold pgV at this
    simpa using this
def spPage (C : Addr) : Sp := fun vs H Q _ => ∃ (x y : V) (t1 b1 t2 b2 : Int), vs = [x, y] ∧ RV C H x t1 b1 ∧ RV C H y t2 b2 ∧ ((∃ r, x = .ref r) ∨ ∃ r, y = .ref r) ∧ Nrm t1 b1 ∧ Nrm t2 b2 ∧ Sz 400 t1 ∧ Sz 400 b1 ∧ Sz 400 t2 ∧ Sz 400 b2 ∧
  ∀ H' D, Same H H' → H' D = some (.lst (pgV (t1 * b2) (t2 * b1))) → Q (.ref D) H'
theorem ok_l_page (T : Txt K mg a) : FnOk P w K mg base CX0 11 a.f_l_page a.d_l_page P_l_page (spPage a.c_Ratio) := by
  refine T.F_l_page.ok sc_l_page (fun vs H Q E h => ?_) (fun cdv A outer s H vs Q E hr h => ?_)
  · obtain ⟨x, y, t1, b1, t2, b2, rfl, _⟩ := h
    rfl
  · obtain ⟨x, y, t1, b1, t2, b2, rfl, hx, hy, hxy, n1, n2, s1, s2, s3, s4, k⟩ := h
    refine ⟨_, (pss_one (ps_ret (pe_lst (pa_cons (pe_cmpR (op_or2 (cmp_own (ok_Ratio_lt T) (hr.mono (by decide)) T.s_Ratio_lt T.i_Ratio_lt T.b_Ratio_lt pass0) (op_or2 (cmp_ownI (ok_Ratio_lt T) (hr.mono (by decide)) T.s_Ratio_lt T.i_Ratio_lt (by rfl) T.b_Ratio_lt pass0) (cmp_ltIOwn (ok_Ratio_gt T) (hr.mono (by decide)) T.s_Ratio_gt T.i_Ratio_gt T.ni_Ratio T.b_Ratio_gt pass0))) (pv 0) (pv 1) (nomark _)) (pa_cons (pe_cmpR (op_or2 (cmp_own (ok_Ratio_le T) (hr.mono (by decide)) T.s_Ratio_le T.i_Ratio_le T.b_Ratio_le pass0) (op_or2 (cmp_ownI (ok_Ratio_le T) (hr.mono (by decide)) T.s_Ratio_le T.i_Ratio_le (by rfl) T.b_Ratio_le pass0) (cmp_leIOwn (ok_Ratio_ge T) (hr.mono (by decide)) T.s_Ratio_ge T.i_Ratio_ge T.ni_Ratio T.b_Ratio_ge pass0))) (pv 0) (pv 1) (nomark _)) (pa_cons (pe_cmpR (op_or2 (cmp_own (ok_Ratio_eq T) (hr.mono (by decide)) T.s_Ratio_eq T.i_Ratio_eq T.b_Ratio_eq pass0) (op_or2 (cmp_ownI (ok_Ratio_eq T) (hr.mono (by decide)) T.s_Ratio_eq T.i_Ratio_eq (by rfl) T.b_Ratio_eq pass0) (cmp_eqIOwn (ok_Ratio_eq T) (hr.mono (by decide)) T.s_Ratio_eq T.i_Ratio_eq T.ni_Ratio T.b_Ratio_eq pass0))) (pv 0) (pv 1) (nomark _)) (pa_cons (pe_cmpR (op_or2 (cmp_own (ok_Ratio_ge T) (hr.mono (by decide)) T.s_Ratio_ge T.i_Ratio_ge T.b_Ratio_ge pass0) (op_or2 (cmp_ownI (ok_Ratio_ge T) (hr.mono (by decide)) T.s_Ratio_ge T.i_Ratio_ge (by rfl) T.b_Ratio_ge pass0) (cmp_geIOwn (ok_Ratio_le T) (hr.mono (by decide)) T.s_Ratio_le T.i_Ratio_le T.ni_Ratio T.b_Ratio_le pass0))) (pv 0) (pv 1) (nomark _)) (pa_cons (pe_cmpR (op_or2 (cmp_own (ok_Ratio_gt T) (hr.mono (by decide)) T.s_Ratio_gt T.i_Ratio_gt T.b_Ratio_gt pass0) (op_or2 (cmp_ownI (ok_Ratio_gt T) (hr.mono (by decide)) T.s_Ratio_gt T.i_Ratio_gt (by rfl) T.b_Ratio_gt pass0) (cmp_gtIOwn (ok_Ratio_lt T) (hr.mono (by decide)) T.s_Ratio_lt T.i_Ratio_lt T.ni_Ratio T.b_Ratio_lt pass0))) (pv 0) (pv 1) (nomark _)) pa_nil)))))))), ?_⟩
    have go : ∀ (f fr : Int → Int → Bool), (∀ i j, fr i j = f j i) → ∀ (H1 : Hp) (Q : VK), Same H H1 → (∀ H2, Same H H2 → Q (.bl (f (t1 * b2) (t2 * b1))) H2) → (rOwn a.c_Ratio (spRCmp a.c_Ratio f) E0 x y H1 Q ∨ rOwnI a.c_Ratio (spRCmp a.c_Ratio f) E0 x y H1 Q ∨ rIOwn a.c_Ratio (spRCmp a.c_Ratio fr) E0 x y H1 Q) := fun f fr hf H1 Q e1 q => by
      have hx1 := hx.same e1
      have hy1 := hy.same e1
      rcases id hx1 with ⟨rfl, rfl⟩ | ⟨r1, rfl, d1, h1⟩
      · rcases id hy1 with ⟨rfl, rfl⟩ | ⟨r2, rfl, d2, h2⟩
        · exfalso
          rcases hxy with ⟨r, e⟩ | ⟨r, e⟩ <;> cases e
        · exact .inr (.inr ⟨r2, d2, _, t1, rfl, rfl, h2, r2, .int t1, t2, b2, t1, 1, rfl, ⟨d2, h2⟩, .inl ⟨rfl, rfl⟩, n2, n1, s3, s4, s1, s2, fun H2 e2 => by rw [hf]; exact q H2 (e1.trans e2)⟩)
      · rcases id hy1 with ⟨rfl, rfl⟩ | ⟨r2, rfl, d2, h2⟩
        · exact .inr (.inl ⟨r1, d1, _, t2, rfl, rfl, h1, r1, .int t2, t1, b1, t2, 1, rfl, ⟨d1, h1⟩, .inl ⟨rfl, rfl⟩, n1, n2, s1, s2, s3, s4, fun H2 e2 => q H2 (e1.trans e2)⟩)
        · exact .inl ⟨r1, r2, d1, d2, _, _, rfl, rfl, h1, h2, r1, .ref r2, t1, b1, t2, b2, rfl, ⟨d1, h1⟩, .inr ⟨r2, rfl, d2, h2⟩, n1, n2, s1, s2, s3, s4, fun H2 e2 => q H2 (e1.trans e2)⟩
    refine ⟨_, rfl, _, rfl, go _ _ (fun i j => rfl) H _ (Same.refl _) fun H1 e1 => ?_⟩
    refine ⟨_, rfl, _, rfl, go _ _ (fun i j => rfl) H1 _ e1 fun H2 e2 => ?_⟩
    refine ⟨_, rfl, _, rfl, go _ _ (fun i j => decide_eq_decide.mpr eq_comm) H2 _ e2 fun H3 e3 => ?_⟩
    refine ⟨_, rfl, _, rfl, go _ _ (fun i j => rfl) H3 _ e3 fun H4 e4 => ?_⟩
    refine ⟨_, rfl, _, rfl, go _ _ (fun i j => rfl) H4 _ e4 fun H5 e5 => ?_⟩
    exact ⟨by show 5 ≤ sizeLine; decide, fun D nD => k _ D (e5.trans (same_upd nD)) upd_same⟩
end
end K45

namespace K45
open PySem PySem.Spec PyProof.Rows L2
section
variable {P : Program} {w : World} {K : PySem.W.Frag} {mg : Str → Option Value} {base : Heap} {a : Ad}
def sp_law (K : PySem.W.Frag) : Sp := fun vs H Q _ => ∃ (x : Addr) (ns : List Int), vs = [.ref x] ∧ ScrAt K H x (ns.map V.int) ∧ ns.length ≤ 63 ∧ ∀ H', Q (.bl true) H'
/-- three fractions -/
structure Thr (ts bs : List Int) : Prop where
  lt : ts.length = 3
  lb : bs.length = 3
  pos : ∀ b ∈ bs, 0 < b
  st : ∀ t ∈ ts, Sz 64 t
  sb : ∀ b ∈ bs, Sz 64 b
theorem pgV_B (i j : Int) : pgV i j = (pgB i j).map V.bl := rfl
theorem pg_scale {i j i' j' : Int} (h1 : i < j ↔ i' < j') (h2 : j < i ↔ j' < i') : pgV i j = pgV i' j' := by
  have e1 : decide (i < j) = decide (i' < j') := decide_eq_decide.mpr h1
  have e2 : decide (j < i) = decide (j' < i') := decide_eq_decide.mpr h2
  have e3 : decide (i ≤ j) = decide (i' ≤ j') := decide_eq_decide.mpr (by omega)
  have e4 : decide (i = j) = decide (i' = j') := decide_eq_decide.mpr (by omega)
  have e5 : decide (j ≤ i) = decide (j' ≤ i') := decide_eq_decide.mpr (by omega)
  unfold pgV
  rw [e1, e2, e3, e4, e5]
theorem sgn_mul {k x : Int} (hk : 0 < k) : (0 < x ↔ 0 < k * x) ∧ (x < 0 ↔ k * x < 0) := by
  have m : ∀ {y : Int}, 0 < y → 0 < k * y := fun h => Int.mul_pos hk h
  refine ⟨⟨m, fun h => Int.not_le.mp fun z => ?_⟩, ⟨fun h => ?_, fun h => Int.not_le.mp fun z => ?_⟩⟩
  · have := Int.mul_nonneg (a := k) (b := -x) (by omega) (by omega)
    rw [Int.mul_neg] at this
    omega
  · have := m (y := -x) (by omega)
    rw [Int.mul_neg] at this
    omega
  · have := Int.mul_nonneg (a := k) (b := x) (by omega) (by omega)
    omega
/-- the same order of p1 / q1 and p2 / q2, told by other numbers -/
theorem isR_ord {t1 b1 p1 q1 t2 b2 p2 q2 : Int} (h1 : IsR t1 b1 p1 q1) (h2 : IsR t2 b2 p2 q2) (a1 : 0 < q1) (a2 : 0 < q2) : pgV (t1 * b2) (t2 * b1) = pgV (p1 * q2) (p2 * q1) := by
  have e1 := h1.2
  have e2 := h2.2
  have p1' := h1.1.1
  have p2' := h2.1.1
  have key : (q1 * q2) * (t1 * b2 - t2 * b1) = (b1 * b2) * (p1 * q2 - p2 * q1) := by grind
  have hq := Int.mul_pos a1 a2
  have hb := Int.mul_pos p1' p2'
  obtain ⟨s1, s2⟩ := sgn_mul (x := t1 * b2 - t2 * b1) hq
  obtain ⟨s3, s4⟩ := sgn_mul (x := p1 * q2 - p2 * q1) hb
  rw [key] at s1 s2
  exact pg_scale (by omega) (by omega)
theorem pg_sum {t1 b1 t2 b2 t3 b3 : Int} (h : 0 < b3) : pgV ((t1 * b3 + t3 * b1) * (b2 * b3)) ((t2 * b3 + t3 * b2) * (b1 * b3)) = pgV (t1 * b2) (t2 * b1) := by
  have key : (t1 * b3 + t3 * b1) * (b2 * b3) - (t2 * b3 + t3 * b2) * (b1 * b3) = (b3 * b3) * (t1 * b2 - t2 * b1) := by grind
  obtain ⟨s1, s2⟩ := sgn_mul (x := t1 * b2 - t2 * b1) (Int.mul_pos h h)
  rw [← key] at s1 s2
  exact pg_scale (by omega) (by omega)
theorem pg_neg {t1 b1 t2 b2 : Int} : pgV (-t2 * b1) (-t1 * b2) = pgV (t1 * b2) (t2 * b1) := by
  rw [Int.neg_mul, Int.neg_mul]
  exact pg_scale (by omega) (by omega)
end
end K45

namespace K45
open PySem PySem.Spec PyProof.Rows L2
section
variable {P : Program} {w : World} {K : PySem.W.Frag} {mg : Str → Option Value} {base : Heap} {a : Ad}
theorem ok_law (T : Txt K mg a) : FnOk P w K mg base CX0 13 a.f_law a.d_law P_law (sp_law K) := by
  refine T.F_law.ok sc_law (fun vs H Q E h => ?_) (fun cdv A outer s H vs Q E hr h => ?_)
  · obtain ⟨x, ns, rfl, _⟩ := h
    rfl
  · obtain ⟨x, ns, rfl, hx, hl, k⟩ := h
    refine ⟨_, (Evl.pss_cut (ps_for PassesOwn.never rfl (pi_range1 (by rfl) T.z_range (pa_cons (pe_callB (call_max2 rfl) (by rfl) T.z_max (by decide +kernel) (pa_cons pe_int (pa_cons (pe_callB (call_min2 rfl) (by rfl) T.z_min (by decide +kernel) (pa_cons pe_int (pa_cons (pe_callB call_len_seq (by rfl) T.z_len (by decide +kernel) (pa_cons (pv 0) pa_nil)) pa_nil))) pa_nil))) pa_nil)) (pg_name (i := 1) sc_law.nd rfl (Or.inl rfl))
    (Evl.pss_cut (ps_set (i := 2) sc_law.nd rfl (Or.inl rfl) (pe_call (ok_l_pool T) (hr.mono (by decide)) (by rfl) T.g_l_pool T.k_l_pool T.b_l_pool .nil pass0 (pa_cons (pv 0) (pa_cons (pv 1) pa_nil))))
  (Evl.pss_cut (ps_asg (pe_tup (pa_cons (pe_lst pa_nil) (pa_cons (pe_lst pa_nil) pa_nil))) (pg_tup rfl (pgs_cons (pg_name (i := 3) sc_law.nd rfl (Or.inr rfl)) (pgs_cons (pg_name (i := 4) sc_law.nd rfl (Or.inr rfl)) pgs_nil))))
  (Evl.pss_cut (ps_for PassesOwn.never rfl (pi_range1 (by rfl) T.z_range (pa_cons pe_int pa_nil)) (pg_name (i := 5) sc_law.nd rfl (Or.inl rfl))
    (pss_cons (ps_set (i := 6) sc_law.nd rfl (Or.inl rfl) (pe_call (ok_l_number T) (hr.mono (by decide)) (by rfl) T.g_l_number T.k_l_number T.b_l_number .nil pass0 (pa_cons (pv 2) (pa_cons (pe_op op_pow pe_int pe_int) pa_nil))))
  (pss_cons (ps_expr (pe_bm PySem.F.plainAttrs_list PySem.F.slot_list_append PySem.F.type_list_append mt_append (pv 4) (pa_cons (pe_op op_add (pe_callB call_abs (by rfl) T.z_abs (by decide +kernel) (pa_cons (pv 6) pa_nil)) (pe_callTy call_int1 (by rfl) T.z_int (by decide +kernel) (pa_cons (pe_cmpR op_eq (pv 6) pe_int (nomark _)) pa_nil))) pa_nil)))
  (pss_one (ps_expr (pe_bm PySem.F.plainAttrs_list PySem.F.slot_list_append PySem.F.type_list_append mt_append (pv 3) (pa_cons (pe_call (ok_l_number T) (hr.mono (by decide)) (by rfl) T.g_l_number T.k_l_number T.b_l_number .nil pass0 (pa_cons (pv 2) (pa_cons (pe_op op_pow pe_int pe_int) pa_nil))) pa_nil)))))))
  (Evl.pss_cut (ps_if (pt_cmpR op_eq (pe_call (ok_l_take T) (hr.mono (by decide)) (by rfl) T.g_l_take T.k_l_take T.b_l_take .nil pass0 (pa_cons (pv 2) (pa_cons pe_int pa_nil))) pe_int (nomark _))
    (pss_cons (ps_set (i := 7) sc_law.nd rfl (Or.inl rfl) (pe_op op_add pe_int (pe_call (ok_l_take T) (hr.mono (by decide)) (by rfl) T.g_l_take T.k_l_take T.b_l_take .nil pass0 (pa_cons (pv 2) (pa_cons pe_int pa_nil)))))
  (pss_one (ps_asg (pe_tup (pa_cons (pe_op op_sub (pe_op op_add (pe_op op_mulW (pe_ix ix_list (pv 3) pe_int (by intro _ _; rfl)) (pv 7)) (pe_call (ok_l_take T) (hr.mono (by decide)) (by rfl) T.g_l_take T.k_l_take T.b_l_take .nil pass0 (pa_cons (pv 2) (pa_cons pe_int pa_nil)))) pe_int) (pa_cons (pe_op op_mulW (pe_ix ix_list (pv 4) pe_int (by intro _ _; rfl)) (pv 7)) pa_nil))) (pg_tup rfl (pgs_cons (pg_sub (pv 3) pe_int set_list) (pgs_cons (pg_sub (pv 4) pe_int set_list) pgs_nil))))))
    pss_nil)
  (Evl.pss_cut (ps_set (i := 8) sc_law.nd rfl (Or.inl rfl) (pe_call (ok_l_number T) (hr.mono (by decide)) (by rfl) T.g_l_number T.k_l_number T.b_l_number .nil pass0 (pa_cons (pv 2) (pa_cons (pe_op op_pow pe_int pe_int) pa_nil))))
  (Evl.pss_cut (ps_if (pt_cmpR op_eq (pe_call (ok_l_take T) (hr.mono (by decide)) (by rfl) T.g_l_take T.k_l_take T.b_l_take .nil pass0 (pa_cons (pv 2) (pa_cons pe_int pa_nil))) pe_int (nomark _))
    (pss_one (ps_set (i := 8) sc_law.nd rfl (Or.inl rfl) (pe_op op_fdivW (pe_ix ix_list (pv 3) pe_int (by intro _ _; rfl)) (pe_ix ix_list (pv 4) pe_int (by intro _ _; rfl)))))
    pss_nil)
  (Evl.pss_cut (ps_setLc (i := 9) (own := [("_law_at", 13)]) (g := gName 13) (tt := tYes) (te := (tMake a.c_Ratio (spRInit a.c_Ratio) [] E0 (tCons (tOp (rIxL K) (tVar 3) (tVar 13)) (tCons (tOp (rIxL K) (tVar 4) (tVar 13)) tNil)))) rfl sc_law.nd rfl rfl (sw_true rfl rfl rfl (by decide +kernel)) (pi_range1 (by rfl) T.z_range (pa_cons pe_int pa_nil)) (blkOk_by (N := N_law) (sc := defScope s_law) (by decide +kernel)) (fun _ _ _ _ _ => pg_name (i := 13) sc_law.nd rfl (Or.inl rfl)) (fun _ _ _ _ _ => pts_nil) (fun _ _ _ _ _ => by exact (pe_make T.mk_Ratio (ok_Ratio_init T) (hr.mono (by decide)) (by rfl) T.g_Ratio T.b_Ratio_init .nil pass0 (pa_cons (pe_ix ix_list (pv 3) (pv 13) (by intro _ _; rfl)) (pa_cons (pe_ix ix_list (pv 4) (pv 13) (by intro _ _; rfl)) pa_nil)))))
  (pss_one (ps_for PassesOwn.never rfl (pi_range1 (by rfl) T.z_range (pa_cons pe_int pa_nil)) (pg_name (i := 10) sc_law.nd rfl (Or.inl rfl))
    (pss_cons (ps_for PassesOwn.never rfl (pi_range1 (by rfl) T.z_range (pa_cons pe_int pa_nil)) (pg_name (i := 11) sc_law.nd rfl (Or.inl rfl))
    (pss_cons (ps_set (i := 12) sc_law.nd rfl (Or.inl rfl) (pe_call (ok_l_due T) (hr.mono (by decide)) (by rfl) T.g_l_due T.k_l_due T.b_l_due .nil pass0 (pa_cons (pe_op op_mulW (pe_ix ix_list (pv 3) (pv 10) (by intro _ _; rfl)) (pe_ix ix_list (pv 4) (pv 11) (by intro _ _; rfl))) (pa_cons (pe_op op_mulW (pe_ix ix_list (pv 3) (pv 11) (by intro _ _; rfl)) (pe_ix ix_list (pv 4) (pv 10) (by intro _ _; rfl))) pa_nil))))
  (pss_cons (ps_if (PW.pt (pw_or (pt_cmpR (op_neD hr.units) (pe_call (ok_l_page T) (hr.mono (by decide)) (by rfl) T.g_l_page T.k_l_page T.b_l_page .nil pass0 (pa_cons (pe_ix ix_list (pv 9) (pv 10) (by intro _ _; rfl)) (pa_cons (pe_ix ix_list (pv 9) (pv 11) (by intro _ _; rfl)) pa_nil))) (pv 12) (nomark _)) (pw_or1 (pt_cmpR op_notIn_seq (pe_bm PySem.F.plainAttrs_list PySem.F.slot_list_count PySem.F.type_list_count (mt_lcountB hr.units65) (pv 12) (pa_cons pe_bl pa_nil)) (pe_lst (pa_cons pe_int (pa_cons pe_int pa_nil))) (by with_unfolding_all rfl)))))
    (pss_one (ps_ret pe_bl))
    pss_nil)
  (pss_cons (ps_if (pt_cmpR (op_neD hr.units) (pe_call (ok_l_page T) (hr.mono (by decide)) (by rfl) T.g_l_page T.k_l_page T.b_l_page .nil pass0 (pa_cons (pe_op (op_own (ok_Ratio_add T) (hr.mono (by decide)) T.s_Ratio_add T.i_Ratio_add T.sf_Ratio T.b_Ratio_add pass0) (pe_ix ix_list (pv 9) (pv 10) (by intro _ _; rfl)) (pe_ix ix_list (pv 9) pe_int (by intro _ _; rfl))) (pa_cons (pe_op (op_own (ok_Ratio_add T) (hr.mono (by decide)) T.s_Ratio_add T.i_Ratio_add T.sf_Ratio T.b_Ratio_add pass0) (pe_ix ix_list (pv 9) (pv 11) (by intro _ _; rfl)) (pe_ix ix_list (pv 9) pe_int (by intro _ _; rfl))) pa_nil))) (pv 12) (nomark _))
    (pss_one (ps_ret pe_bl))
    pss_nil)
  (pss_one (ps_if (pt_cmpR (op_neD hr.units) (pe_call (ok_l_page T) (hr.mono (by decide)) (by rfl) T.g_l_page T.k_l_page T.b_l_page .nil pass0 (pa_cons (pe_un (un_negOwn (ok_Ratio_neg T) (hr.mono (by decide)) T.s_Ratio_neg T.i_Ratio_neg T.b_Ratio_neg pass0) (pe_ix ix_list (pv 9) (pv 11) (by intro _ _; rfl))) (pa_cons (pe_un (un_negOwn (ok_Ratio_neg T) (hr.mono (by decide)) T.s_Ratio_neg T.i_Ratio_neg T.b_Ratio_neg pass0) (pe_ix ix_list (pv 9) (pv 10) (by intro _ _; rfl))) pa_nil))) (pv 12) (nomark _))
    (pss_one (ps_ret pe_bl))
    pss_nil))))))
  (pss_cons (ps_set (i := 12) sc_law.nd rfl (Or.inl rfl) (pe_call (ok_l_due T) (hr.mono (by decide)) (by rfl) T.g_l_due T.k_l_due T.b_l_due .nil pass0 (pa_cons (pe_ix ix_list (pv 3) (pv 10) (by intro _ _; rfl)) (pa_cons (pe_op op_mulW (pv 8) (pe_ix ix_list (pv 4) (pv 10) (by intro _ _; rfl))) pa_nil))))
  (pss_cons (ps_if (PW.pt (pw_or (pt_cmpR (op_neD hr.units) (pe_call (ok_l_page T) (hr.mono (by decide)) (by rfl) T.g_l_page T.k_l_page T.b_l_page .nil pass0 (pa_cons (pe_ix ix_list (pv 9) (pv 10) (by intro _ _; rfl)) (pa_cons (pv 8) pa_nil))) (pv 12) (nomark _)) (pw_or1 (pt_cmpR (op_neD hr.units) (pe_call (ok_l_page T) (hr.mono (by decide)) (by rfl) T.g_l_page T.k_l_page T.b_l_page .nil pass0 (pa_cons (pe_make T.mk_Ratio (ok_Ratio_init T) (hr.mono (by decide)) (by rfl) T.g_Ratio T.bd_Ratio_init T.vd_Ratio_init pass0 (pa_cons (pv 8) pa_nil)) (pa_cons (pe_ix ix_list (pv 9) (pv 10) (by intro _ _; rfl)) pa_nil))) (pe_revL (pv 12)) (nomark _)))))
    (pss_one (ps_ret pe_bl))
    pss_nil)
  (pss_one (ps_if (pt_cmpR (op_neD hr.units) (pe_call (ok_l_page T) (hr.mono (by decide)) (by rfl) T.g_l_page T.k_l_page T.b_l_page .nil pass0 (pa_cons (pv 8) (pa_cons (pe_ix ix_list (pv 9) (pv 10) (by intro _ _; rfl)) pa_nil))) (pe_revL (pv 12)) (nomark _))
    (pss_one (ps_ret pe_bl))
    pss_nil)))))))))))))))
  (pss_one (ps_ret pe_bl))), ?_⟩
    refine ⟨fun σ H1 => True, ?_, fun σ H1 _ => k _⟩
    refine ⟨_, rfl, x, _, rfl, .inl hx.seq, _, _, rfl, _, _, rfl, _, rfl, ?_, ?_, ?_⟩
    · split <;> split <;> omega
    · rw [List.length_map]; split <;> split <;> omega
    refine for_range (lo := 0) (fun i σ H1 => ∃ v1 v2 v3 v4 v5 v6 v7 v8 v9 v10 v11 v12 v13, σ = [some (.ref x), v1, v2, v3, v4, v5, v6, v7, v8, v9, v10, v11, v12, v13] ∧ Same H H1) ⟨_, _, _, _, _, _, _, _, _, _, _, _, _, rfl, Same.refl _⟩ ?_ (fun _ _ _ => trivial)
    rintro i σ H1 hi ⟨v1, v2, v3, v4, v5, v6, v7, v8, v9, v10, v11, v12, v13, rfl, f1⟩
    have hi2 : i < 100 := by
      revert hi
      rw [List.length_map]
      split <;> split <;> omega
    rw [show (0 : Int) + ((i : Nat) : Int) = (i : Int) by omega]
    -- the pool
    refine ⟨fun σ H2 => ∃ p, σ = [some (.ref x), some (.int (i : Int)), some (.ref p), v3, v4, v5, v6, v7, v8, v9, v10, v11, v12, v13] ∧ Same H H2 ∧ H p = none ∧ PlAt H2 p, ?_, ?_⟩
    · exact ⟨_, rfl, _, rfl, x, ns, i, rfl, f1.seq hx.seq, hi2, fun p b m np m0 m1 => ⟨p, rfl, f1.trans (same_upd np), f1.free np, b, m, upd_same, m0, m1⟩⟩
    rintro σ H2 ⟨p, rfl, f2, np, p2⟩
    -- its frame
    have fr : ∀ {H3 H4 : Hp}, Same H H3 → (∀ c u, c ≠ p → H3 c = some u → H4 c = some u) → Same H H4 := fun f g c u hc => g c u (fun z => by subst z; rw [np] at hc; cases hc) (f c u hc)
    refine ⟨fun σ H3 => ∃ T B, σ = [some (.ref x), some (.int (i : Int)), some (.ref p), some (.ref T), some (.ref B), v5, v6, v7, v8, v9, v10, v11, v12, v13] ∧ Same H H3 ∧ PlAt H3 p ∧ H T = none ∧ H B = none ∧ T ≠ p ∧ B ≠ p ∧ T ≠ B ∧ H3 T = some (.lst []) ∧ H3 B = some (.lst []), ?_, ?_⟩
    · obtain ⟨b, m, hp, m0, m1⟩ := p2
      refine ⟨by show 0 ≤ sizeLine; decide, fun T nT => ⟨by show 0 ≤ sizeLine; decide, fun B nB => ⟨by show 2 ≤ sizeLine; decide, fun t nt => ?_⟩⟩⟩
      have e1 := same_upd nT (o := .lst [])
      have e2 := e1.trans (same_upd nB (o := .lst []))
      have e3 := e2.trans (same_upd nt (o := .tup [.ref T, .ref B]))
      have tB : T ≠ B := ne_of_none upd_same nB
      exact ⟨t, _, rfl, tup_of upd_same, rfl, _, _, rfl, _, _, rfl, rfl, T, B, rfl, f2.trans e3, ⟨b, m, e3 _ _ hp, m0, m1⟩, f2.free nT, (f2.trans e1).free nB, (ne_of_none hp nT).symm, (ne_of_none (e1 _ _ hp) nB).symm, tB, (same_upd nt) _ _ ((same_upd nB) _ _ upd_same), (same_upd nt) _ _ upd_same⟩
    rintro σ H3 ⟨Tt, B, rfl, f3, p3, nT, nB, tp, bp, tB, hT, hB⟩
    have pne : ∀ {H4 : Hp} {c : Addr} {o : HO}, PlAt H4 p → c ≠ p → PlAt (upd H4 c o) p := fun ⟨b, m, h, m0, m1⟩ n => ⟨b, m, by rw [upd_ne (Ne.symm n)]; exact h, m0, m1⟩
    -- three fractions
    refine ⟨fun σ H4 => ∃ v5 v6, ∃ ts bs : List Int, σ = [some (.ref x), some (.int (i : Int)), some (.ref p), some (.ref Tt), some (.ref B), v5, v6, v7, v8, v9, v10, v11, v12, v13] ∧ Same H H4 ∧ PlAt H4 p ∧ H4 Tt = some (.lst (ts.map V.int)) ∧ H4 B = some (.lst (bs.map V.int)) ∧ ts.length = 3 ∧ bs.length = 3 ∧ (∀ t ∈ ts, Sz 61 t) ∧ (∀ b ∈ bs, 0 < b ∧ Sz 61 b), ?_, ?_⟩
    · refine ⟨_, rfl, by decide, by decide, ?_⟩
      refine for_range (lo := 0) (n := 3) (fun j σ H4 => ∃ v5 v6, ∃ ts bs : List Int, σ = [some (.ref x), some (.int (i : Int)), some (.ref p), some (.ref Tt), some (.ref B), v5, v6, v7, v8, v9, v10, v11, v12, v13] ∧ Same H H4 ∧ PlAt H4 p ∧ H4 Tt = some (.lst (ts.map V.int)) ∧ H4 B = some (.lst (bs.map V.int)) ∧ ts.length = j ∧ bs.length = j ∧ (∀ t ∈ ts, Sz 61 t) ∧ (∀ b ∈ bs, 0 < b ∧ Sz 61 b)) ⟨_, _, [], [], rfl, f3, p3, hT, hB, rfl, rfl, fun _ h => (nomatch h), fun _ h => (nomatch h)⟩ ?_ (fun σ H4 h => h)
      rintro j σ H4 hj ⟨v5, v6, ts, bs, rfl, f4, p4, hT, hB, lt, lb, st, sb⟩
      refine ⟨_, rfl, _, 18, rfl, rfl, ⟨by decide, by decide, by decide⟩, p, 10 ^ 18, rfl, p4, by decide, by decide, fun H5 r f5 p5 r0 r1 => ?_⟩
      have hB5 := f5 _ _ bp hB
      refine ⟨_, rfl, .inl ⟨rfl, _, lst_of hB5⟩, _, rfl, _, rfl, _, rfl, rfl, .inr ⟨_, rfl, _, _, rfl, rfl, B, _, _, rfl, rfl, hB5, by rw [List.length_map, sizeLine_eq]; omega, ?_⟩⟩
      have hT5 := f5 _ _ tp hT
      refine ⟨_, rfl, .inl ⟨rfl, _, lst_of (by rw [upd_ne tB]; exact hT5)⟩, _, rfl, _, 18, rfl, rfl, ⟨by decide, by decide, by decide⟩, p, 10 ^ 18, rfl, pne p5 bp, by decide, by decide, fun H7 r7 f7 p7 r70 r71 => ?_⟩
      have hT7 := f7 _ _ tp (by rw [upd_ne tB]; exact hT5)
      have hB7 := f7 _ _ bp upd_same
      have e18 : (10 : Int) ^ 18 = 1000000000000000000 := by decide
      rw [e18] at r0 r1 r70 r71
      refine ⟨Tt, _, _, rfl, rfl, hT7, by rw [List.length_map, sizeLine_eq]; omega, _, _, ts ++ [r7], bs ++ [_], rfl, (fr ((fr f4 f5).mut nB) f7).mut nT, pne p7 tp, by rw [upd_same, List.map_append]; rfl, by rw [upd_ne (Ne.symm tB), hB7, List.map_append]; rfl, by rw [List.length_append, lt]; rfl, by rw [List.length_append, lb]; rfl, fun t ht => ?_, fun b hb => ?_⟩
      · rcases List.mem_append.mp ht with ht | ht
        · exact st t ht
        · rw [List.mem_singleton.mp ht]
          unfold Sz
          omega
      · rcases List.mem_append.mp hb with hb | hb
        · exact sb b hb
        · rw [List.mem_singleton.mp hb]
          have hz : decide (V.int r = V.int 0) = decide (r = 0) := decide_eq_decide.mpr ⟨fun h => by cases h; rfl, fun h => by rw [h]⟩
          unfold Sz
          rw [hz]
          by_cases h0 : r = 0
          · subst h0
            exact ⟨by decide, by decide⟩
          · rw [decide_eq_false h0]
            split <;> simp <;> omega
    rintro σ H4 ⟨v5, v6, ts, bs, rfl, f4, p4, hT, hB, lt, lb, st, sb⟩
    obtain ⟨t0, t1, t2, rfl⟩ : ∃ t0 t1 t2, ts = [t0, t1, t2] := by
      match ts, lt with
      | [t0, t1, t2], _ => exact ⟨t0, t1, t2, rfl⟩
    obtain ⟨b0, b1, b2, rfl⟩ : ∃ b0 b1 b2, bs = [b0, b1, b2] := by
      match bs, lb with
      | [b0, b1, b2], _ => exact ⟨b0, b1, b2, rfl⟩
    have st0 := st t0 List.mem_cons_self
    have sb0 := sb b0 List.mem_cons_self
    -- near one another
    refine ⟨fun σ H5 => ∃ v7, ∃ t1 b1 : Int, σ = [some (.ref x), some (.int (i : Int)), some (.ref p), some (.ref Tt), some (.ref B), v5, v6, v7, v8, v9, v10, v11, v12, v13] ∧ Same H H5 ∧ PlAt H5 p ∧ H5 Tt = some (.lst ([t0, t1, t2].map V.int)) ∧ H5 B = some (.lst ([b0, b1, b2].map V.int)) ∧ Sz 64 t1 ∧ 0 < b1 ∧ Sz 64 b1, ?_, ?_⟩
    · refine ⟨_, rfl, p, 2, rfl, p4, by decide, by decide, fun H5 r f5 p5 r0 r1 => ⟨rfl, _, rfl, ite2 (fun h => ?_) (fun h => ?_)⟩⟩
      · refine ⟨_, rfl, p, 3, rfl, p5, by decide, by decide, fun H6 r6 f6 p6 r60 r61 => ⟨_, _, rfl, rfl, ?_⟩⟩
        have hT6 := f6 _ _ tp (f5 _ _ tp hT)
        have hB6 := f6 _ _ bp (f5 _ _ bp hB)
        have sf : Sz 2 (1 + r6) := by unfold Sz; omega
        refine ⟨_, rfl, Tt, _, 0, _, rfl, rfl, lst_of hT6, rfl, _, rfl, _, _, rfl, rfl, st0.mulW sf (by decide), _, rfl, p, 3, rfl, p6, by decide, by decide, fun H7 r7 f7 p7 r70 r71 => ⟨_, _, rfl, rfl, _, _, rfl, rfl, ?_⟩⟩
        have hT7 := f7 _ _ tp hT6
        have hB7 := f7 _ _ bp hB6
        refine ⟨_, rfl, B, _, 0, _, rfl, rfl, lst_of hB7, rfl, _, rfl, _, _, rfl, rfl, sb0.2.mulW sf (by decide), by show 2 ≤ sizeLine; decide, fun t nt => ?_⟩
        have e8 := same_upd nt (o := .tup [.int (t0 * (1 + r6) + r7 - 1), .int (b0 * (1 + r6))])
        have hT8 := e8 _ _ hT7
        have hB8 := e8 _ _ hB7
        refine ⟨t, _, rfl, tup_of upd_same, rfl, _, _, rfl, _, rfl, Tt, _, 1, 1, rfl, rfl, hT8, rfl, _, _, rfl, _, rfl, B, _, 1, 1, rfl, rfl, by rw [upd_ne (Ne.symm tB)]; exact hB8, rfl, rfl, ?_⟩
        have p8 : PlAt _ p := let ⟨b, m, h, m0, m1⟩ := p7; ⟨b, m, e8 _ _ h, m0, m1⟩
        have f8 : Same H _ := (fr (fr (fr f4 f5) f6) f7).trans e8
        refine ⟨_, t0 * (1 + r6) + r7 - 1, b0 * (1 + r6), rfl, (f8.mut nT).mut nB, pne (pne p8 tp) bp, by rw [upd_ne tB, upd_same]; rfl, by rw [upd_same]; rfl, ?_, Int.mul_pos sb0.1 (by omega), (sb0.2.mul sf).mono (by decide)⟩
        have h1 := st0.mul sf
        unfold Sz at *
        omega
      · exact ⟨_, t1, b1, rfl, fr f4 f5, p5, f5 _ _ tp hT, f5 _ _ bp hB, (st t1 (List.mem_cons_of_mem _ List.mem_cons_self)).mono (by decide), (sb b1 (List.mem_cons_of_mem _ List.mem_cons_self)).1, (sb b1 (List.mem_cons_of_mem _ List.mem_cons_self)).2.mono (by decide)⟩
    rintro σ H5 ⟨v7, t1, b1, rfl, f5, p5, hT, hB, st1, pb1, sb1⟩
    have st2 := (st t2 (List.mem_cons_of_mem _ (List.mem_cons_of_mem _ List.mem_cons_self))).mono (show 61 ≤ 64 by decide)
    have sb2 := sb b2 (List.mem_cons_of_mem _ (List.mem_cons_of_mem _ List.mem_cons_self))
    have R3 : Thr [t0, t1, t2] [b0, b1, b2] := ⟨rfl, rfl, fun b hb => by
      simp only [List.mem_cons, List.not_mem_nil, or_false] at hb
      rcases hb with rfl | rfl | rfl
      · exact sb0.1
      · exact pb1
      · exact sb2.1, fun t ht => by
      simp only [List.mem_cons, List.not_mem_nil, or_false] at ht
      rcases ht with rfl | rfl | rfl
      · exact st0.mono (by decide)
      · exact st1
      · exact st2, fun b hb => by
      simp only [List.mem_cons, List.not_mem_nil, or_false] at hb
      rcases hb with rfl | rfl | rfl
      · exact sb0.2.mono (by decide)
      · exact sb1
      · exact sb2.2.mono (by decide)⟩
    -- the number
    refine ⟨fun σ H6 => ∃ n : Int, σ = [some (.ref x), some (.int (i : Int)), some (.ref p), some (.ref Tt), some (.ref B), v5, v6, v7, some (.int n), v9, v10, v11, v12, v13] ∧ Same H H6 ∧ PlAt H6 p ∧ H6 Tt = some (.lst ([t0, t1, t2].map V.int)) ∧ H6 B = some (.lst ([b0, b1, b2].map V.int)) ∧ Sz 64 n, ?_, ?_⟩
    · refine ⟨_, rfl, _, 18, rfl, rfl, ⟨by decide, by decide, by decide⟩, p, 10 ^ 18, rfl, p5, by decide, by decide, fun H6 r f6 p6 r0 r1 => ?_⟩
      have e18 : (10 : Int) ^ 18 = 1000000000000000000 := by decide
      rw [e18] at r0 r1
      exact ⟨_, rfl, fr f5 f6, p6, f6 _ _ tp hT, f6 _ _ bp hB, by unfold Sz; omega⟩
    rintro σ H6 ⟨n0, rfl, f6, p6, hT, hB, sn0⟩
    refine ⟨fun σ H7 => ∃ n : Int, σ = [some (.ref x), some (.int (i : Int)), some (.ref p), some (.ref Tt), some (.ref B), v5, v6, v7, some (.int n), v9, v10, v11, v12, v13] ∧ H7 Tt = some (.lst ([t0, t1, t2].map V.int)) ∧ H7 B = some (.lst ([b0, b1, b2].map V.int)) ∧ Same H H7 ∧ Sz 64 n, ?_, ?_⟩
    · refine ⟨_, rfl, p, 3, rfl, p6, by decide, by decide, fun H7 r f7 p7 r0 r1 => ⟨rfl, _, rfl, ite2 (fun h => ?_) (fun h => ?_)⟩⟩
      · have hT7 := f7 _ _ tp hT
        have hB7 := f7 _ _ bp hB
        exact ⟨_, rfl, Tt, _, 0, _, rfl, rfl, lst_of hT7, rfl, _, rfl, B, _, 0, _, rfl, rfl, lst_of hB7, rfl, _, _, rfl, rfl, wide_div (b := 61) sb0.1 sb0.2 (by decide) (by decide), _, rfl, hT7, hB7, fr f6 f7, (st0.le (Int.natAbs_ediv_le_natAbs _ _)).mono (by decide)⟩
      · exact ⟨_, rfl, f7 _ _ tp hT, f7 _ _ bp hB, fr f6 f7, sn0⟩
    rintro σ H7 ⟨n, rfl, hT, hB, f7, sn⟩
    generalize hts : [t0, t1, t2] = ts at hT R3
    generalize hbs : [b0, b1, b2] = bs at hB R3
    -- the ratios
    refine ⟨fun σ H8 => ∃ R, ∃ rs : List Addr, σ = [some (.ref x), some (.int (i : Int)), some (.ref p), some (.ref Tt), some (.ref B), v5, v6, v7, some (.int n), some (.ref R), v10, v11, v12, v13] ∧ Same H7 H8 ∧ H8 R = some (.lst (rs.map V.ref)) ∧ rs.length = 3 ∧ ∀ (j : Nat) y, rs[j]? = some y → ∃ t b, RatAt a.c_Ratio H8 y t b ∧ IsR t b (ts.getD j 0) (bs.getD j 0) ∧ Sz 64 t ∧ Sz 64 b, ?_, ?_⟩
    · refine ⟨_, rfl, by decide, by decide, fun D nD => ?_⟩
      refine lc_range (lo := 0) (n := 3) (fun j H8 => Same H7 H8 ∧ ∃ rs : List Addr, H8 D = some (.lst (rs.map V.ref)) ∧ rs.length = j ∧ ∀ (j : Nat) y, rs[j]? = some y → ∃ t b, RatAt a.c_Ratio H8 y t b ∧ IsR t b (ts.getD j 0) (bs.getD j 0) ∧ Sz 64 t ∧ Sz 64 b) ⟨same_upd nD, [], upd_same, rfl, fun j _ h => by simp at h⟩ (fun j H8 hj h => ?_) (fun H8 h => ?_)
      · obtain ⟨f8, rs, hD, hl, hrs⟩ := h
        rw [show (0 : Int) + ((j : Nat) : Int) = (j : Int) by omega]
        have ljt : j < ts.length := by rw [R3.lt]; exact hj
        have ljb : j < bs.length := by rw [R3.lb]; exact hj
        have gT : ts.getD j 0 ∈ ts := by rw [List.getD_eq_getElem?_getD, List.getElem?_eq_getElem ljt]; exact List.getElem_mem ljt
        have gB : bs.getD j 0 ∈ bs := by rw [List.getD_eq_getElem?_getD, List.getElem?_eq_getElem ljb]; exact List.getElem_mem ljb
        have gA : ∀ {l : List Int}, j < l.length → (l.map V.int)[j]? = some (.int (l.getD j 0)) := fun h => by
          rw [List.getElem?_map, List.getElem?_eq_getElem h, List.getD_eq_getElem?_getD, List.getElem?_eq_getElem h]
          rfl
        refine ⟨rfl, tyes ⟨_, rfl, _, rfl, Tt, _, (j : Int), _, rfl, rfl, lst_of (f8 _ _ hT), atI_nat (gA ljt), _, rfl, _, rfl, B, _, (j : Int), _, rfl, rfl, lst_of (f8 _ _ hB), atI_nat (gA ljb), fun y dy ny nd ndy => mkR ny nd ndy (R3.pos _ gB) ((R3.sb _ gB).mono (by decide)) fun H9 t b e9 hr9 hi9 l1 l2 => ⟨rfl, _, e9 _ _ hD, by rw [List.length_map, sizeLine_eq]; omega, ?_⟩⟩⟩
        have hy : ∀ {y : Addr} {t b : Int} {o : HO}, RatAt a.c_Ratio H9 y t b → RatAt a.c_Ratio (upd H9 D o) y t b := fun ⟨dx, h⟩ => ⟨dx, by rw [upd_ne (ne_of h (e9 _ _ hD) (by intro z; cases z))]; exact h⟩
        refine ⟨(f8.trans e9).mut nD, rs ++ [y], by rw [upd_same, List.map_append]; rfl, by rw [List.length_append, hl]; rfl, fun m z hz => ?_⟩
        by_cases hm : m < rs.length
        · rw [List.getElem?_append_left hm] at hz
          obtain ⟨t', b', h1, h2⟩ := hrs m z hz
          exact ⟨t', b', hy (h1.same e9), h2⟩
        · rw [List.getElem?_append_right (by omega)] at hz
          have h0 : m - rs.length = 0 := by
            have := (List.getElem?_eq_some_iff.mp hz).1
            rw [List.length_singleton] at this
            omega
          rw [h0] at hz
          obtain rfl := Option.some.inj hz
          have em : m = j := by omega
          subst em
          exact ⟨t, b, hy hr9, hi9, (R3.st _ gT).le l1, (R3.sb _ gB).le l2⟩
      · obtain ⟨f8, rs, hD, hl, hrs⟩ := h
        exact ⟨D, rs, rfl, f8, hD, hl, hrs⟩
    rintro σ H8 ⟨R, rs, rfl, f8, hR, rl, hrs⟩
    have hT := f8 _ _ hT
    have hB := f8 _ _ hB
    have f0 := f7.trans f8
    have get : ∀ j : Nat, j < 3 → ∃ y t b, (rs.map V.ref)[j]? = some (.ref y) ∧ RatAt a.c_Ratio H8 y t b ∧ IsR t b (ts.getD j 0) (bs.getD j 0) ∧ Sz 64 t ∧ Sz 64 b ∧ (ts.map V.int)[j]? = some (.int (ts.getD j 0)) ∧ (bs.map V.int)[j]? = some (.int (bs.getD j 0)) ∧ 0 < bs.getD j 0 ∧ Sz 64 (ts.getD j 0) ∧ Sz 64 (bs.getD j 0) := fun j hj => by
      have ljt : j < ts.length := by rw [R3.lt]; exact hj
      have ljb : j < bs.length := by rw [R3.lb]; exact hj
      have ljr : j < rs.length := by rw [rl]; exact hj
      have gT : ts.getD j 0 ∈ ts := by rw [List.getD_eq_getElem?_getD, List.getElem?_eq_getElem ljt]; exact List.getElem_mem ljt
      have gB : bs.getD j 0 ∈ bs := by rw [List.getD_eq_getElem?_getD, List.getElem?_eq_getElem ljb]; exact List.getElem_mem ljb
      have gA : ∀ {l : List Int}, j < l.length → (l.map V.int)[j]? = some (.int (l.getD j 0)) := fun h => by
        rw [List.getElem?_map, List.getElem?_eq_getElem h, List.getD_eq_getElem?_getD, List.getElem?_eq_getElem h]
        rfl
      obtain ⟨t, b, h1, h2, h3, h4⟩ := hrs j _ (List.getElem?_eq_getElem ljr)
      exact ⟨_, t, b, by rw [List.getElem?_map, List.getElem?_eq_getElem ljr]; rfl, h1, h2, h3, h4, gA ljt, gA ljb, R3.pos _ gB, R3.st _ gT, R3.sb _ gB⟩
    have f08 : Same H H8 := f0
    -- every one of them
    refine ⟨_, rfl, by decide, by decide, ?_⟩
    refine for_range (lo := 0) (n := 3) (fun j σ H9 => ∃ v10 v11 v12, σ = [some (.ref x), some (.int (i : Int)), some (.ref p), some (.ref Tt), some (.ref B), v5, v6, v7, some (.int n), some (.ref R), v10, v11, v12, v13] ∧ Same H8 H9) ⟨_, _, _, rfl, Same.refl _⟩ ?_ (fun σ H9 h => by
      obtain ⟨v10, v11, v12, rfl, e⟩ := h
      exact ⟨_, _, _, _, _, _, _, _, _, _, _, _, _, rfl, f08.trans e⟩)
    rintro one σ H9 hone ⟨v10, v11, v12, rfl, e9⟩
    rw [show (0 : Int) + ((one : Nat) : Int) = (one : Int) by omega]
    obtain ⟨y1, t1', b1', gy1, ra1, is1, sz1, sz2, gt1, gb1, pb1', st1', sb1'⟩ := get one hone
    have n1 := is1.1
    -- with every other one
    refine ⟨_, rfl, by decide, by decide, ?_⟩
    refine for_range (lo := 0) (n := 3) (fun j σ H10 => ∃ v11 v12, σ = [some (.ref x), some (.int (i : Int)), some (.ref p), some (.ref Tt), some (.ref B), v5, v6, v7, some (.int n), some (.ref R), some (.int (one : Int)), v11, v12, v13] ∧ Same H8 H10) ⟨_, _, rfl, e9⟩ ?_ ?_
    · rintro two σ H10 htwo ⟨v11, v12, rfl, e10⟩
      rw [show (0 : Int) + ((two : Nat) : Int) = (two : Int) by omega]
      obtain ⟨y2, t2', b2', gy2, ra2, is2, sz3, sz4, gt2, gb2, pb2', st2', sb2'⟩ := get two htwo
      obtain ⟨y3, t3', b3', gy3, ra3, is3, sz5, sz6, gt3, gb3, pb3', st3', sb3'⟩ := get 2 (by decide)
      have n2 := is2.1
      generalize hd1 : ts.getD one 0 = p1 at *
      generalize hd2 : bs.getD one 0 = q1 at *
      generalize hd3 : ts.getD two 0 = p2 at *
      generalize hd4 : bs.getD two 0 = q2 at *
      refine ⟨_, rfl, _, rfl, Tt, _, (one : Int), _, rfl, rfl, lst_of (e10 _ _ hT), atI_nat gt1, _, rfl, _, rfl, B, _, (two : Int), _, rfl, rfl, lst_of (e10 _ _ hB), atI_nat gb2, _, _, rfl, rfl, st1'.mulW sb2' (by decide), ?_⟩
      refine ⟨_, rfl, _, rfl, Tt, _, (two : Int), _, rfl, rfl, lst_of (e10 _ _ hT), atI_nat gt2, _, rfl, _, rfl, B, _, (one : Int), _, rfl, rfl, lst_of (e10 _ _ hB), atI_nat gb1, _, _, rfl, rfl, st2'.mulW sb1' (by decide), _, _, rfl, fun D nD => ?_⟩
      have e11 := e10.trans (same_upd nD (o := .lst (pgV (p1 * q2) (p2 * q1))))
      have hD11 : (upd H10 D (.lst (pgV (p1 * q2) (p2 * q1)))) D = _ := upd_same
      generalize upd H10 D (.lst (pgV (p1 * q2) (p2 * q1))) = H11 at e11 hD11
      have rv : ∀ {H' : Hp} {y t b}, Same H8 H' → RatAt a.c_Ratio H8 y t b → RV a.c_Ratio H' (.ref y) t b := fun e h => .inr ⟨_, rfl, h.same e⟩
      have up : ∀ {z : Int}, Sz 64 z → Sz 400 z := fun h => h.mono (by decide)
      refine ⟨_, rfl, _, rfl, R, _, (one : Int), _, rfl, rfl, lst_of (e11 _ _ hR), atI_nat gy1, _, rfl, _, rfl, R, _, (two : Int), _, rfl, rfl, lst_of (e11 _ _ hR), atI_nat gy2, _, _, t1', b1', t2', b2', rfl, rv e11 ra1, rv e11 ra2, .inl ⟨_, rfl⟩, n1, n2, up sz1, up sz2, up sz3, up sz4, fun H12 D2 e12 hD2 => ⟨_, rfl, ?_⟩⟩
      refine neD_bls (ns := pgB (p1 * q2) (p2 * q1)) (lst_of (by rw [hD2, isR_ord is1 is2 pb1' pb2']; rfl)) (lst_of (e12 _ _ hD11)) ⟨_, rfl, iteF ?_⟩
      refine ⟨_, rfl, .inl ⟨rfl, _, lst_of (e12 _ _ hD11)⟩, D, pgB (p1 * q2) (p2 * q1), true, rfl, rfl, lst_of (e12 _ _ hD11), by show 2 ≤ sizeLine; decide, fun L nL => ⟨L, _, rfl, .inl (lst_of upd_same), rfl, rfl, ?_⟩⟩
      have e13 := (e11.trans e12).trans (same_upd nL (o := .lst [.int 2, .int 3]))
      have hD13 := (same_upd nL (o := .lst [.int 2, .int 3])) _ _ (e12 _ _ hD11)
      generalize upd H12 L (.lst [.int 2, .int 3]) = H13 at e13 hD13
      have hin : (!inV (.int (((pgB (p1 * q2) (p2 * q1)).count true : Nat) : Int)) [.int 2, .int 3]) = false := by
        rcases pgB_count (p1 * q2) (p2 * q1) with h | h <;> rw [h] <;> rfl
      refine ⟨_, congrArg V.bl hin, iteF ?_⟩
      obtain ⟨dx1, h1⟩ := id ra1
      obtain ⟨dx2, h2⟩ := id ra2
      obtain ⟨dx3, h3⟩ := id ra3
      have n3 := is3.1
      refine ⟨_, rfl, _, rfl, R, _, (one : Int), _, rfl, rfl, lst_of (e13 _ _ hR), atI_nat gy1, _, rfl, R, _, 2, _, rfl, rfl, lst_of (e13 _ _ hR), atI_nat (j := 2) gy3, y1, y3, dx1, dx3, _, _, rfl, rfl, e13 _ _ h1, e13 _ _ h3, y1, .ref y3, t1', b1', t3', b3', rfl, ra1.same e13, rv e13 ra3, n1.1, n3.1, up sz1, up sz2, up sz5, up sz6, fun H14 za ta ba f14 hza isa la lb => ?_⟩
      have e14 := e13.trans f14
      refine ⟨_, rfl, _, rfl, R, _, (two : Int), _, rfl, rfl, lst_of (e14 _ _ hR), atI_nat gy2, _, rfl, R, _, 2, _, rfl, rfl, lst_of (e14 _ _ hR), atI_nat (j := 2) gy3, y2, y3, dx2, dx3, _, _, rfl, rfl, e14 _ _ h2, e14 _ _ h3, y2, .ref y3, t2', b2', t3', b3', rfl, ra2.same e14, rv e14 ra3, n2.1, n3.1, up sz3, up sz4, up sz5, up sz6, fun H15 zb tb bb f15 hzb isb lc ld => ?_⟩
      have e15 := e14.trans f15
      have s130 : ∀ {u v w z : Int}, Sz 64 u → Sz 64 v → Sz 64 w → Sz 64 z → Sz 400 (u * v + w * z) := fun a b c d => ((a.mul b).add (c.mul d)).mono (by decide)
      have s128 : ∀ {u v : Int}, Sz 64 u → Sz 64 v → Sz 400 (u * v) := fun a b => (a.mul b).mono (by decide)
      refine ⟨_, _, ta, ba, tb, bb, rfl, .inr ⟨za, rfl, hza.same f15⟩, .inr ⟨zb, rfl, hzb⟩, .inl ⟨_, rfl⟩, isa.1, isb.1, (s130 sz1 sz6 sz5 sz2).le la, (s128 sz2 sz6).le lb, (s130 sz3 sz6 sz5 sz4).le lc, (s128 sz4 sz6).le ld, fun H16 D3 f16 hD3 => ⟨_, rfl, ?_⟩⟩
      have hq1 := Int.mul_pos n1.1 n3.1
      have hq2 := Int.mul_pos n2.1 n3.1
      have hD16 := f16 _ _ (f15 _ _ (f14 _ _ hD13))
      refine neD_bls (ns := pgB (p1 * q2) (p2 * q1)) (lst_of (by rw [hD3, isR_ord isa isb hq1 hq2, pg_sum n3.1, isR_ord is1 is2 pb1' pb2']; rfl)) (lst_of hD16) ⟨_, rfl, iteF ?_⟩
      have e16 := e15.trans f16
      refine ⟨_, rfl, _, rfl, R, _, (two : Int), _, rfl, rfl, lst_of (e16 _ _ hR), atI_nat gy2, y2, dx2, _, rfl, e16 _ _ h2, y2, t2', b2', rfl, ra2.same e16, n2.1, up sz4, fun H17 zc tc bc f17 hzc isc la2 lb2 => ?_⟩
      have e17 := e16.trans f17
      refine ⟨_, rfl, _, rfl, R, _, (one : Int), _, rfl, rfl, lst_of (e17 _ _ hR), atI_nat gy1, y1, dx1, _, rfl, e17 _ _ h1, y1, t1', b1', rfl, ra1.same e17, n1.1, up sz2, fun H18 zd td bd f18 hzd isd lc2 ld2 => ?_⟩
      have e18 := e17.trans f18
      refine ⟨_, _, tc, bc, td, bd, rfl, .inr ⟨zc, rfl, hzc.same f18⟩, .inr ⟨zd, rfl, hzd⟩, .inl ⟨_, rfl⟩, isc.1, isd.1, (up sz3.neg).le la2, (up sz4).le lb2, (up sz1.neg).le lc2, (up sz2).le ld2, fun H19 D4 f19 hD4 => ⟨_, rfl, ?_⟩⟩
      refine neD_bls (ns := pgB (p1 * q2) (p2 * q1)) (lst_of (by rw [hD4, isR_ord isc isd n2.1 n1.1, pg_neg, isR_ord is1 is2 pb1' pb2']; rfl)) (lst_of (f19 _ _ (f18 _ _ (f17 _ _ hD16)))) ⟨_, rfl, iteF ?_⟩
      exact ⟨_, _, rfl, e18.trans f19⟩
    · rintro σ H10 ⟨v11, v12, rfl, e10⟩
      have up : ∀ {z : Int}, Sz 64 z → Sz 400 z := fun h => h.mono (by decide)
      have rv : ∀ {H' : Hp} {y t b}, Same H8 H' → RatAt a.c_Ratio H8 y t b → RV a.c_Ratio H' (.ref y) t b := fun e h => .inr ⟨_, rfl, h.same e⟩
      generalize hd1 : ts.getD one 0 = p1 at *
      generalize hd2 : bs.getD one 0 = q1 at *
      refine ⟨_, rfl, _, rfl, Tt, _, (one : Int), _, rfl, rfl, lst_of (e10 _ _ hT), atI_nat gt1, _, rfl, _, rfl, _, rfl, B, _, (one : Int), _, rfl, rfl, lst_of (e10 _ _ hB), atI_nat gb1, _, _, rfl, rfl, sn.mulW sb1' (by decide), _, _, rfl, fun D nD => ?_⟩
      have e11 := e10.trans (same_upd nD (o := .lst (pgV p1 (n * q1))))
      have hD11 : (upd H10 D (.lst (pgV p1 (n * q1)))) D = _ := upd_same
      generalize upd H10 D (.lst (pgV p1 (n * q1))) = H11 at e11 hD11
      have n0 : Nrm n 1 := ⟨by decide, by simp⟩
      have sone : Sz 400 1 := by unfold Sz; exact Nat.one_lt_two_pow (by decide)
      have isn : IsR n 1 n 1 := ⟨n0, rfl⟩
      have due1 : pgV (t1' * 1) (n * b1') = pgV p1 (n * q1) := by rw [isR_ord is1 isn pb1' (by decide), Int.mul_one]
      have due2 : pgV (n * b1') (t1' * 1) = ((pgB p1 (n * q1)).map V.bl).reverse := by
        rw [← List.map_reverse, pgB_rev, isR_ord isn is1 (by decide) pb1', Int.mul_one, pgV_B]
      refine ⟨_, rfl, _, rfl, R, _, (one : Int), _, rfl, rfl, lst_of (e11 _ _ hR), atI_nat gy1, _, rfl, _, _, t1', b1', n, 1, rfl, rv e11 ra1, .inl ⟨rfl, rfl⟩, .inl ⟨_, rfl⟩, n1, n0, up sz1, up sz2, up sn, sone, fun H12 D2 f12 hD2 => ⟨_, rfl, ?_⟩⟩
      have e12 := e11.trans f12
      refine neD_bls (ns := pgB p1 (n * q1)) (lst_of (by rw [hD2, due1]; rfl)) (lst_of (f12 _ _ hD11)) ⟨_, rfl, iteF ?_⟩
      refine ⟨_, rfl, fun y dy ny nd ndy => mkR ny nd ndy (by decide) (by unfold Sz; exact Nat.one_lt_two_pow (by decide)) fun H13 t b f13 hr9 hi9 l1 l2 => ?_⟩
      have eb := (isR_int hi9).1
      have et := (isR_int hi9).2
      rw [eb, et] at hr9
      have e13 := e12.trans f13
      refine ⟨rfl, _, rfl, _, rfl, R, _, (one : Int), _, rfl, rfl, lst_of (e13 _ _ hR), atI_nat gy1, _, _, n, 1, t1', b1', rfl, .inr ⟨y, rfl, hr9⟩, rv e13 ra1, .inl ⟨_, rfl⟩, n0, n1, up sn, sone, up sz1, up sz2, fun H14 D3 f14 hD3 => ?_⟩
      have e14 := e13.trans f14
      have hD14 := f14 _ _ (f13 _ _ (f12 _ _ hD11))
      refine ⟨_, rfl, D, (pgB p1 (n * q1)).map V.bl, rfl, lst_of hD14, fun r nr => ?_⟩
      have f15 := same_upd nr (o := .lst ((pgB p1 (n * q1)).map V.bl).reverse)
      refine neD_bls (ns := (pgB p1 (n * q1)).reverse) (lst_of (by rw [f15 _ _ hD3, due2, List.map_reverse])) (lst_of (by rw [upd_same, List.map_reverse])) ⟨_, rfl, iteF ?_⟩
      have e15 := e14.trans f15
      have hD15 := f15 _ _ hD14
      generalize upd H14 r (.lst ((pgB p1 (n * q1)).map V.bl).reverse) = H15 at e15 hD15
      refine ⟨_, rfl, _, rfl, _, rfl, R, _, (one : Int), _, rfl, rfl, lst_of (e15 _ _ hR), atI_nat gy1, _, _, n, 1, t1', b1', rfl, .inl ⟨rfl, rfl⟩, rv e15 ra1, .inr ⟨_, rfl⟩, n0, n1, up sn, sone, up sz1, up sz2, fun H16 D4 f16 hD4 => ?_⟩
      have e16 := e15.trans f16
      refine ⟨_, rfl, D, (pgB p1 (n * q1)).map V.bl, rfl, lst_of (f16 _ _ hD15), fun r2 nr2 => ?_⟩
      have f17 := same_upd nr2 (o := .lst ((pgB p1 (n * q1)).map V.bl).reverse)
      refine neD_bls (ns := (pgB p1 (n * q1)).reverse) (lst_of (by rw [f17 _ _ hD4, due2, List.map_reverse])) (lst_of (by rw [upd_same, List.map_reverse])) ⟨_, rfl, iteF ?_⟩
      exact ⟨_, _, _, rfl, e16.trans f17⟩
end
theorem all_mk {l : PySem.W.OpenLaw} {w : World} {K : PySem.W.Frag} {h : Heap} {mg : Str → Option Value} {fa c_Ratio f_Ratio_init f_ratio_of f_Ratio_add f_Ratio_radd f_Ratio_neg f_Ratio_sub f_Ratio_rsub f_Ratio_eq f_Ratio_lt f_Ratio_le f_Ratio_gt f_Ratio_ge f_l_pool f_l_take f_l_number f_l_page f_l_due f_law : Addr} (X : K.In h) (G : h.Ns mainGlobals mg) (hfa : mg "law" = some (.ref fa))
    {od_Ratio_init an_Ratio_init od_ratio_of an_ratio_of od_Ratio_add an_Ratio_add od_Ratio_radd an_Ratio_radd od_Ratio_neg an_Ratio_neg od_Ratio_sub an_Ratio_sub od_Ratio_rsub an_Ratio_rsub od_Ratio_eq an_Ratio_eq od_Ratio_lt an_Ratio_lt od_Ratio_le an_Ratio_le od_Ratio_gt an_Ratio_gt od_Ratio_ge an_Ratio_ge od_l_pool an_l_pool od_l_take an_l_take od_l_number an_l_number od_l_page an_l_page od_l_due an_l_due od_law an_law : Option Addr}
    {sl_Ratio_init sl_ratio_of sl_Ratio_add sl_Ratio_radd sl_Ratio_neg sl_Ratio_sub sl_Ratio_rsub sl_Ratio_eq sl_Ratio_lt sl_Ratio_le sl_Ratio_gt sl_Ratio_ge sl_l_pool sl_l_take sl_l_number sl_l_page sl_l_due sl_law : Array (Option Value)}
    {kT_Ratio_init : Addr} {ot_Ratio_init : Value} {oe_Ratio_init : Option Addr} {tk_Ratio_init : Tok} {nn_Ratio_init : Nat} {os_Ratio_init : Array (Option Value)}
    {oc_Ratio_init kV_Ratio_init dc_Ratio_init pm_Ratio_init cd_Ratio_init ct_Ratio_init oc_ratio_of kV_ratio_of dc_ratio_of pm_ratio_of cd_ratio_of ct_ratio_of oc_Ratio_add kV_Ratio_add dc_Ratio_add pm_Ratio_add cd_Ratio_add ct_Ratio_add oc_Ratio_radd kV_Ratio_radd dc_Ratio_radd pm_Ratio_radd cd_Ratio_radd ct_Ratio_radd oc_Ratio_neg kV_Ratio_neg dc_Ratio_neg pm_Ratio_neg cd_Ratio_neg ct_Ratio_neg oc_Ratio_sub kV_Ratio_sub dc_Ratio_sub pm_Ratio_sub cd_Ratio_sub ct_Ratio_sub oc_Ratio_rsub kV_Ratio_rsub dc_Ratio_rsub pm_Ratio_rsub cd_Ratio_rsub ct_Ratio_rsub oc_Ratio_eq kV_Ratio_eq dc_Ratio_eq pm_Ratio_eq cd_Ratio_eq ct_Ratio_eq oc_Ratio_lt kV_Ratio_lt dc_Ratio_lt pm_Ratio_lt cd_Ratio_lt ct_Ratio_lt oc_Ratio_le kV_Ratio_le dc_Ratio_le pm_Ratio_le cd_Ratio_le ct_Ratio_le oc_Ratio_gt kV_Ratio_gt dc_Ratio_gt pm_Ratio_gt cd_Ratio_gt ct_Ratio_gt oc_Ratio_ge kV_Ratio_ge dc_Ratio_ge pm_Ratio_ge cd_Ratio_ge ct_Ratio_ge oc_l_pool kV_l_pool dc_l_pool pm_l_pool cd_l_pool ct_l_pool oc_l_take kV_l_take dc_l_take pm_l_take cd_l_take ct_l_take oc_l_number kV_l_number dc_l_number pm_l_number cd_l_number ct_l_number oc_l_page kV_l_page dc_l_page pm_l_page cd_l_page ct_l_page oc_l_due kV_l_due dc_l_due pm_l_due cd_l_due ct_l_due oc_law kV_law dc_law pm_law cd_law ct_law : Value}
    (h_g_Ratio : PySem.W.nsIn K mainGlobals "Ratio" = some (some (.ref c_Ratio)))
    (h_pg_Ratio : PySem.W.plainGet K c_Ratio Str.empty = true)
    (h_hd_Ratio : PySem.W.hasDictIn K c_Ratio = true)
    (h_po_Ratio : PySem.W.plainOver K c_Ratio = true)
    (h_sa_Ratio : PySem.W.findIn K (.ref c_Ratio) "__setattr__" = some (some (.builtin "object.__setattr__")))
    (h_mkk_Ratio : PySem.W.makesIn K c_Ratio = true)
    (h_kc_Ratio : PySem.W.keepIn K (.ref c_Ratio) = true)
    (h_nA_Ratio_top : PySem.W.findIn K (.ref c_Ratio) "top" = some none)
    (h_nA_Ratio_bottom : PySem.W.findIn K (.ref c_Ratio) "bottom" = some none)
    (h_sf_Ratio : PySem.W.selfFirst K c_Ratio = true)
    (h_ni_Ratio : PySem.W.subIn K (.ref c_Ratio) (.type "int") = some false)
    (h_kty_Ratio : PySem.W.typeIn K (.ref c_Ratio) = some (.type "type"))
    (h_kcl_Ratio : PySem.W.isClsIn K c_Ratio = true)
    (h_ic1_Ratio : PySem.W.findIn K (.ref c_Ratio) "__class__" = some (some (.builtin "object.__class__")))
    (h_ic2_Ratio : PySem.W.specialIn K (.builtin "object.__class__") "__get__" = some (some (.builtin "getset_descriptor.__get__")))
    (h_ic3_Ratio : PySem.W.takesIn K (.builtin "object.__class__") = some true)
    (h_ic4_Ratio : PySem.W.mroIn K c_Ratio (.type "object") = some true)
    (h_a_Ratio_init : PySem.W.findIn K (.ref c_Ratio) "__init__" = some (some (.ref f_Ratio_init)))
    (h_i_Ratio_init : PySem.W.isFn K (.ref f_Ratio_init) = true)
    (h_l_Ratio_init : K.lookup f_Ratio_init = some ⟨oc_Ratio_init, od_Ratio_init, .func (PySem.W.fnOf "__init__" "Ratio.__init__" (defArgs s_Ratio_init) (defBody s_Ratio_init) (defScope s_Ratio_init) (.ref kT_Ratio_init) kV_Ratio_init dc_Ratio_init pm_Ratio_init an_Ratio_init cd_Ratio_init ct_Ratio_init), sl_Ratio_init⟩)
    (h_c_Ratio_init : PySem.W.codeIn K cd_Ratio_init "Ratio.__init__" = true)
    (h_k_Ratio_init : PySem.W.keepIn K (.ref f_Ratio_init) = true)
    (h_kt_Ratio_init : K.lookup kT_Ratio_init = some ⟨ot_Ratio_init, oe_Ratio_init, .seq #[.int 1 tk_Ratio_init] nn_Ratio_init, os_Ratio_init⟩)
    (h_a_ratio_of : PySem.W.nsIn K mainGlobals "ratio_of" = some (some (.ref f_ratio_of)))
    (h_l_ratio_of : K.lookup f_ratio_of = some ⟨oc_ratio_of, od_ratio_of, .func (PySem.W.fnOf "ratio_of" "ratio_of" (defArgs s_ratio_of) (defBody s_ratio_of) (defScope s_ratio_of) .none kV_ratio_of dc_ratio_of pm_ratio_of an_ratio_of cd_ratio_of ct_ratio_of), sl_ratio_of⟩)
    (h_c_ratio_of : PySem.W.codeIn K cd_ratio_of "ratio_of" = true)
    (h_k_ratio_of : PySem.W.keepIn K (.ref f_ratio_of) = true)
    (h_a_Ratio_add : PySem.W.findIn K (.ref c_Ratio) "__add__" = some (some (.ref f_Ratio_add)))
    (h_i_Ratio_add : PySem.W.isFn K (.ref f_Ratio_add) = true)
    (h_l_Ratio_add : K.lookup f_Ratio_add = some ⟨oc_Ratio_add, od_Ratio_add, .func (PySem.W.fnOf "__add__" "Ratio.__add__" (defArgs s_Ratio_add) (defBody s_Ratio_add) (defScope s_Ratio_add) .none kV_Ratio_add dc_Ratio_add pm_Ratio_add an_Ratio_add cd_Ratio_add ct_Ratio_add), sl_Ratio_add⟩)
    (h_c_Ratio_add : PySem.W.codeIn K cd_Ratio_add "Ratio.__add__" = true)
    (h_k_Ratio_add : PySem.W.keepIn K (.ref f_Ratio_add) = true)
    (h_a_Ratio_radd : PySem.W.findIn K (.ref c_Ratio) "__radd__" = some (some (.ref f_Ratio_radd)))
    (h_i_Ratio_radd : PySem.W.isFn K (.ref f_Ratio_radd) = true)
    (h_l_Ratio_radd : K.lookup f_Ratio_radd = some ⟨oc_Ratio_radd, od_Ratio_radd, .func (PySem.W.fnOf "__radd__" "Ratio.__radd__" (defArgs s_Ratio_radd) (defBody s_Ratio_radd) (defScope s_Ratio_radd) .none kV_Ratio_radd dc_Ratio_radd pm_Ratio_radd an_Ratio_radd cd_Ratio_radd ct_Ratio_radd), sl_Ratio_radd⟩)
    (h_c_Ratio_radd : PySem.W.codeIn K cd_Ratio_radd "Ratio.__radd__" = true)
    (h_k_Ratio_radd : PySem.W.keepIn K (.ref f_Ratio_radd) = true)
    (h_a_Ratio_neg : PySem.W.findIn K (.ref c_Ratio) "__neg__" = some (some (.ref f_Ratio_neg)))
    (h_i_Ratio_neg : PySem.W.isFn K (.ref f_Ratio_neg) = true)
    (h_l_Ratio_neg : K.lookup f_Ratio_neg = some ⟨oc_Ratio_neg, od_Ratio_neg, .func (PySem.W.fnOf "__neg__" "Ratio.__neg__" (defArgs s_Ratio_neg) (defBody s_Ratio_neg) (defScope s_Ratio_neg) .none kV_Ratio_neg dc_Ratio_neg pm_Ratio_neg an_Ratio_neg cd_Ratio_neg ct_Ratio_neg), sl_Ratio_neg⟩)
    (h_c_Ratio_neg : PySem.W.codeIn K cd_Ratio_neg "Ratio.__neg__" = true)
    (h_k_Ratio_neg : PySem.W.keepIn K (.ref f_Ratio_neg) = true)
    (h_a_Ratio_sub : PySem.W.findIn K (.ref c_Ratio) "__sub__" = some (some (.ref f_Ratio_sub)))
    (h_i_Ratio_sub : PySem.W.isFn K (.ref f_Ratio_sub) = true)
    (h_l_Ratio_sub : K.lookup f_Ratio_sub = some ⟨oc_Ratio_sub, od_Ratio_sub, .func (PySem.W.fnOf "__sub__" "Ratio.__sub__" (defArgs s_Ratio_sub) (defBody s_Ratio_sub) (defScope s_Ratio_sub) .none kV_Ratio_sub dc_Ratio_sub pm_Ratio_sub an_Ratio_sub cd_Ratio_sub ct_Ratio_sub), sl_Ratio_sub⟩)
    (h_c_Ratio_sub : PySem.W.codeIn K cd_Ratio_sub "Ratio.__sub__" = true)
    (h_k_Ratio_sub : PySem.W.keepIn K (.ref f_Ratio_sub) = true)
    (h_a_Ratio_rsub : PySem.W.findIn K (.ref c_Ratio) "__rsub__" = some (some (.ref f_Ratio_rsub)))
    (h_i_Ratio_rsub : PySem.W.isFn K (.ref f_Ratio_rsub) = true)
    (h_l_Ratio_rsub : K.lookup f_Ratio_rsub = some ⟨oc_Ratio_rsub, od_Ratio_rsub, .func (PySem.W.fnOf "__rsub__" "Ratio.__rsub__" (defArgs s_Ratio_rsub) (defBody s_Ratio_rsub) (defScope s_Ratio_rsub) .none kV_Ratio_rsub dc_Ratio_rsub pm_Ratio_rsub an_Ratio_rsub cd_Ratio_rsub ct_Ratio_rsub), sl_Ratio_rsub⟩)
    (h_c_Ratio_rsub : PySem.W.codeIn K cd_Ratio_rsub "Ratio.__rsub__" = true)
    (h_k_Ratio_rsub : PySem.W.keepIn K (.ref f_Ratio_rsub) = true)
    (h_a_Ratio_eq : PySem.W.findIn K (.ref c_Ratio) "__eq__" = some (some (.ref f_Ratio_eq)))
    (h_i_Ratio_eq : PySem.W.isFn K (.ref f_Ratio_eq) = true)
    (h_l_Ratio_eq : K.lookup f_Ratio_eq = some ⟨oc_Ratio_eq, od_Ratio_eq, .func (PySem.W.fnOf "__eq__" "Ratio.__eq__" (defArgs s_Ratio_eq) (defBody s_Ratio_eq) (defScope s_Ratio_eq) .none kV_Ratio_eq dc_Ratio_eq pm_Ratio_eq an_Ratio_eq cd_Ratio_eq ct_Ratio_eq), sl_Ratio_eq⟩)
    (h_c_Ratio_eq : PySem.W.codeIn K cd_Ratio_eq "Ratio.__eq__" = true)
    (h_k_Ratio_eq : PySem.W.keepIn K (.ref f_Ratio_eq) = true)
    (h_a_Ratio_lt : PySem.W.findIn K (.ref c_Ratio) "__lt__" = some (some (.ref f_Ratio_lt)))
    (h_i_Ratio_lt : PySem.W.isFn K (.ref f_Ratio_lt) = true)
    (h_l_Ratio_lt : K.lookup f_Ratio_lt = some ⟨oc_Ratio_lt, od_Ratio_lt, .func (PySem.W.fnOf "__lt__" "Ratio.__lt__" (defArgs s_Ratio_lt) (defBody s_Ratio_lt) (defScope s_Ratio_lt) .none kV_Ratio_lt dc_Ratio_lt pm_Ratio_lt an_Ratio_lt cd_Ratio_lt ct_Ratio_lt), sl_Ratio_lt⟩)
    (h_c_Ratio_lt : PySem.W.codeIn K cd_Ratio_lt "Ratio.__lt__" = true)
    (h_k_Ratio_lt : PySem.W.keepIn K (.ref f_Ratio_lt) = true)
    (h_a_Ratio_le : PySem.W.findIn K (.ref c_Ratio) "__le__" = some (some (.ref f_Ratio_le)))
    (h_i_Ratio_le : PySem.W.isFn K (.ref f_Ratio_le) = true)
    (h_l_Ratio_le : K.lookup f_Ratio_le = some ⟨oc_Ratio_le, od_Ratio_le, .func (PySem.W.fnOf "__le__" "Ratio.__le__" (defArgs s_Ratio_le) (defBody s_Ratio_le) (defScope s_Ratio_le) .none kV_Ratio_le dc_Ratio_le pm_Ratio_le an_Ratio_le cd_Ratio_le ct_Ratio_le), sl_Ratio_le⟩)
    (h_c_Ratio_le : PySem.W.codeIn K cd_Ratio_le "Ratio.__le__" = true)
    (h_k_Ratio_le : PySem.W.keepIn K (.ref f_Ratio_le) = true)
    (h_a_Ratio_gt : PySem.W.findIn K (.ref c_Ratio) "__gt__" = some (some (.ref f_Ratio_gt)))
    (h_i_Ratio_gt : PySem.W.isFn K (.ref f_Ratio_gt) = true)
    (h_l_Ratio_gt : K.lookup f_Ratio_gt = some ⟨oc_Ratio_gt, od_Ratio_gt, .func (PySem.W.fnOf "__gt__" "Ratio.__gt__" (defArgs s_Ratio_gt) (defBody s_Ratio_gt) (defScope s_Ratio_gt) .none kV_Ratio_gt dc_Ratio_gt pm_Ratio_gt an_Ratio_gt cd_Ratio_gt ct_Ratio_gt), sl_Ratio_gt⟩)
    (h_c_Ratio_gt : PySem.W.codeIn K cd_Ratio_gt "Ratio.__gt__" = true)
    (h_k_Ratio_gt : PySem.W.keepIn K (.ref f_Ratio_gt) = true)
    (h_a_Ratio_ge : PySem.W.findIn K (.ref c_Ratio) "__ge__" = some (some (.ref f_Ratio_ge)))
    (h_i_Ratio_ge : PySem.W.isFn K (.ref f_Ratio_ge) = true)
    (h_l_Ratio_ge : K.lookup f_Ratio_ge = some ⟨oc_Ratio_ge, od_Ratio_ge, .func (PySem.W.fnOf "__ge__" "Ratio.__ge__" (defArgs s_Ratio_ge) (defBody s_Ratio_ge) (defScope s_Ratio_ge) .none kV_Ratio_ge dc_Ratio_ge pm_Ratio_ge an_Ratio_ge cd_Ratio_ge ct_Ratio_ge), sl_Ratio_ge⟩)
    (h_c_Ratio_ge : PySem.W.codeIn K cd_Ratio_ge "Ratio.__ge__" = true)
    (h_k_Ratio_ge : PySem.W.keepIn K (.ref f_Ratio_ge) = true)
    (h_a_l_pool : PySem.W.nsIn K mainGlobals "_law_pool" = some (some (.ref f_l_pool)))
    (h_l_l_pool : K.lookup f_l_pool = some ⟨oc_l_pool, od_l_pool, .func (PySem.W.fnOf "_law_pool" "_law_pool" (defArgs s_l_pool) (defBody s_l_pool) (defScope s_l_pool) .none kV_l_pool dc_l_pool pm_l_pool an_l_pool cd_l_pool ct_l_pool), sl_l_pool⟩)
    (h_c_l_pool : PySem.W.codeIn K cd_l_pool "_law_pool" = true)
    (h_k_l_pool : PySem.W.keepIn K (.ref f_l_pool) = true)
    (h_a_l_take : PySem.W.nsIn K mainGlobals "_law_take" = some (some (.ref f_l_take)))
    (h_l_l_take : K.lookup f_l_take = some ⟨oc_l_take, od_l_take, .func (PySem.W.fnOf "_law_take" "_law_take" (defArgs s_l_take) (defBody s_l_take) (defScope s_l_take) .none kV_l_take dc_l_take pm_l_take an_l_take cd_l_take ct_l_take), sl_l_take⟩)
    (h_c_l_take : PySem.W.codeIn K cd_l_take "_law_take" = true)
    (h_k_l_take : PySem.W.keepIn K (.ref f_l_take) = true)
    (h_a_l_number : PySem.W.nsIn K mainGlobals "_law_number" = some (some (.ref f_l_number)))
    (h_l_l_number : K.lookup f_l_number = some ⟨oc_l_number, od_l_number, .func (PySem.W.fnOf "_law_number" "_law_number" (defArgs s_l_number) (defBody s_l_number) (defScope s_l_number) .none kV_l_number dc_l_number pm_l_number an_l_number cd_l_number ct_l_number), sl_l_number⟩)
    (h_c_l_number : PySem.W.codeIn K cd_l_number "_law_number" = true)
    (h_k_l_number : PySem.W.keepIn K (.ref f_l_number) = true)
    (h_a_l_page : PySem.W.nsIn K mainGlobals "_law_page" = some (some (.ref f_l_page)))
    (h_l_l_page : K.lookup f_l_page = some ⟨oc_l_page, od_l_page, .func (PySem.W.fnOf "_law_page" "_law_page" (defArgs s_l_page) (defBody s_l_page) (defScope s_l_page) .none kV_l_page dc_l_page pm_l_page an_l_page cd_l_page ct_l_page), sl_l_page⟩)
    (h_c_l_page : PySem.W.codeIn K cd_l_page "_law_page" = true)
    (h_k_l_page : PySem.W.keepIn K (.ref f_l_page) = true)
    (h_a_l_due : PySem.W.nsIn K mainGlobals "_law_due" = some (some (.ref f_l_due)))
    (h_l_l_due : K.lookup f_l_due = some ⟨oc_l_due, od_l_due, .func (PySem.W.fnOf "_law_due" "_law_due" (defArgs s_l_due) (defBody s_l_due) (defScope s_l_due) .none kV_l_due dc_l_due pm_l_due an_l_due cd_l_due ct_l_due), sl_l_due⟩)
    (h_c_l_due : PySem.W.codeIn K cd_l_due "_law_due" = true)
    (h_k_l_due : PySem.W.keepIn K (.ref f_l_due) = true)
    (h_a_law : PySem.W.nsIn K mainGlobals "law" = some (some (.ref f_law)))
    (h_l_law : K.lookup f_law = some ⟨oc_law, od_law, .func (PySem.W.fnOf "law" "law" (defArgs s_law) (defBody s_law) (defScope s_law) .none kV_law dc_law pm_law an_law cd_law ct_law), sl_law⟩)
    (h_c_law : PySem.W.codeIn K cd_law "law" = true)
    (h_k_law : PySem.W.keepIn K (.ref f_law) = true)
    (h_gg_gcd : PySem.W.nsIn K mainGlobals "gcd" = some (some (.builtin "math.gcd")))
    (h_z_abs : PySem.W.nsIn K mainGlobals "abs" = some none)
    (h_z_int : PySem.W.nsIn K mainGlobals "int" = some none)
    (h_z_isinstance : PySem.W.nsIn K mainGlobals "isinstance" = some none)
    (h_z_len : PySem.W.nsIn K mainGlobals "len" = some none)
    (h_z_max : PySem.W.nsIn K mainGlobals "max" = some none)
    (h_z_min : PySem.W.nsIn K mainGlobals "min" = some none)
    (h_z_range : PySem.W.nsIn K mainGlobals "range" = some none) :
    ∃ fd : FuncData, (∀ (s : Shared) (v : Value), BindsTo s fd ⟨[v], []⟩ [("_law_script", v)]) ∧ ∀ base : Heap, K.In base → base.Ns mainGlobals mg → FnOk l.prog w K mg base CX0 13 fa fd ["_law_script"] (sp_law K) := by
  have e := hfa.symm.trans (PySem.W.mg_of X G h_a_law)
  cases e
  have FD_Ratio_init : FunD K "__init__" "Ratio.__init__" (defArgs s_Ratio_init) (defBody s_Ratio_init) (defScope s_Ratio_init) [V.int 1] [] f_Ratio_init (PySem.W.fnOf "__init__" "Ratio.__init__" (defArgs s_Ratio_init) (defBody s_Ratio_init) (defScope s_Ratio_init) (.ref kT_Ratio_init) kV_Ratio_init dc_Ratio_init pm_Ratio_init an_Ratio_init cd_Ratio_init ct_Ratio_init) :=
    ⟨⟨_, _, _, _, _, _, _, _, _, _, rfl, h_l_Ratio_init, h_c_Ratio_init, .inr ⟨by simp, _, _, [.int 1 tk_Ratio_init], _, rfl, h_kt_Ratio_init, rfl, .cons ⟨_, rfl⟩ .nil⟩, .inl rfl⟩, h_k_Ratio_init⟩
  have KD_Ratio_init : ∃ ds, Vals [V.int 1] ds ∧ L2.Binds K _ P_Ratio_init ds := FD_Ratio_init.binds1 2 0 (by simp) rfl fun T kV doc pm an cdv ct us its hu hi => match us, hu, its, hi with | [_, _], _, [_], _ => ⟨_, rfl, rfl⟩
  have KA_Ratio_init : L2.Binds K _ P_Ratio_init [] := (fun ⟨ds, r, h⟩ => by cases r; exact h) (FD_Ratio_init.binds1 (ps := P_Ratio_init) 3 1 (by simp) rfl fun T kV doc pm an cdv ct us its hu hi => match us, hu, its, hi with | [_, _, _], _, [_], _ => ⟨_, rfl, rfl⟩)
  have T : Txt K mg (Ad.mk c_Ratio f_Ratio_init (PySem.W.fnOf "__init__" "Ratio.__init__" (defArgs s_Ratio_init) (defBody s_Ratio_init) (defScope s_Ratio_init) (.ref kT_Ratio_init) kV_Ratio_init dc_Ratio_init pm_Ratio_init an_Ratio_init cd_Ratio_init ct_Ratio_init) f_ratio_of (PySem.W.fnOf "ratio_of" "ratio_of" (defArgs s_ratio_of) (defBody s_ratio_of) (defScope s_ratio_of) .none kV_ratio_of dc_ratio_of pm_ratio_of an_ratio_of cd_ratio_of ct_ratio_of) f_Ratio_add (PySem.W.fnOf "__add__" "Ratio.__add__" (defArgs s_Ratio_add) (defBody s_Ratio_add) (defScope s_Ratio_add) .none kV_Ratio_add dc_Ratio_add pm_Ratio_add an_Ratio_add cd_Ratio_add ct_Ratio_add) f_Ratio_radd (PySem.W.fnOf "__radd__" "Ratio.__radd__" (defArgs s_Ratio_radd) (defBody s_Ratio_radd) (defScope s_Ratio_radd) .none kV_Ratio_radd dc_Ratio_radd pm_Ratio_radd an_Ratio_radd cd_Ratio_radd ct_Ratio_radd) f_Ratio_neg (PySem.W.fnOf "__neg__" "Ratio.__neg__" (defArgs s_Ratio_neg) (defBody s_Ratio_neg) (defScope s_Ratio_neg) .none kV_Ratio_neg dc_Ratio_neg pm_Ratio_neg an_Ratio_neg cd_Ratio_neg ct_Ratio_neg) f_Ratio_sub (PySem.W.fnOf "__sub__" "Ratio.__sub__" (defArgs s_Ratio_sub) (defBody s_Ratio_sub) (defScope s_Ratio_sub) .none kV_Ratio_sub dc_Ratio_sub pm_Ratio_sub an_Ratio_sub cd_Ratio_sub ct_Ratio_sub) f_Ratio_rsub (PySem.W.fnOf "__rsub__" "Ratio.__rsub__" (defArgs s_Ratio_rsub) (defBody s_Ratio_rsub) (defScope s_Ratio_rsub) .none kV_Ratio_rsub dc_Ratio_rsub pm_Ratio_rsub an_Ratio_rsub cd_Ratio_rsub ct_Ratio_rsub) f_Ratio_eq (PySem.W.fnOf "__eq__" "Ratio.__eq__" (defArgs s_Ratio_eq) (defBody s_Ratio_eq) (defScope s_Ratio_eq) .none kV_Ratio_eq dc_Ratio_eq pm_Ratio_eq an_Ratio_eq cd_Ratio_eq ct_Ratio_eq) f_Ratio_lt (PySem.W.fnOf "__lt__" "Ratio.__lt__" (defArgs s_Ratio_lt) (defBody s_Ratio_lt) (defScope s_Ratio_lt) .none kV_Ratio_lt dc_Ratio_lt pm_Ratio_lt an_Ratio_lt cd_Ratio_lt ct_Ratio_lt) f_Ratio_le (PySem.W.fnOf "__le__" "Ratio.__le__" (defArgs s_Ratio_le) (defBody s_Ratio_le) (defScope s_Ratio_le) .none kV_Ratio_le dc_Ratio_le pm_Ratio_le an_Ratio_le cd_Ratio_le ct_Ratio_le) f_Ratio_gt (PySem.W.fnOf "__gt__" "Ratio.__gt__" (defArgs s_Ratio_gt) (defBody s_Ratio_gt) (defScope s_Ratio_gt) .none kV_Ratio_gt dc_Ratio_gt pm_Ratio_gt an_Ratio_gt cd_Ratio_gt ct_Ratio_gt) f_Ratio_ge (PySem.W.fnOf "__ge__" "Ratio.__ge__" (defArgs s_Ratio_ge) (defBody s_Ratio_ge) (defScope s_Ratio_ge) .none kV_Ratio_ge dc_Ratio_ge pm_Ratio_ge an_Ratio_ge cd_Ratio_ge ct_Ratio_ge) f_l_pool (PySem.W.fnOf "_law_pool" "_law_pool" (defArgs s_l_pool) (defBody s_l_pool) (defScope s_l_pool) .none kV_l_pool dc_l_pool pm_l_pool an_l_pool cd_l_pool ct_l_pool) f_l_take (PySem.W.fnOf "_law_take" "_law_take" (defArgs s_l_take) (defBody s_l_take) (defScope s_l_take) .none kV_l_take dc_l_take pm_l_take an_l_take cd_l_take ct_l_take) f_l_number (PySem.W.fnOf "_law_number" "_law_number" (defArgs s_l_number) (defBody s_l_number) (defScope s_l_number) .none kV_l_number dc_l_number pm_l_number an_l_number cd_l_number ct_l_number) f_l_page (PySem.W.fnOf "_law_page" "_law_page" (defArgs s_l_page) (defBody s_l_page) (defScope s_l_page) .none kV_l_page dc_l_page pm_l_page an_l_page cd_l_page ct_l_page) f_l_due (PySem.W.fnOf "_law_due" "_law_due" (defArgs s_l_due) (defBody s_l_due) (defScope s_l_due) .none kV_l_due dc_l_due pm_l_due an_l_due cd_l_due ct_l_due) fa (PySem.W.fnOf "law" "law" (defArgs s_law) (defBody s_law) (defScope s_law) .none kV_law dc_law pm_law an_law cd_law ct_law) KD_Ratio_init.choose) :=
    Txt.mk (PySem.W.mg_of X G h_g_Ratio) (⟨h_pg_Ratio, h_hd_Ratio, h_po_Ratio, h_sa_Ratio⟩) (⟨h_mkk_Ratio, h_a_Ratio_init, h_i_Ratio_init, h_kc_Ratio⟩) (h_nA_Ratio_top) (h_nA_Ratio_bottom) (h_sf_Ratio) (h_ni_Ratio) (kit_int h_kcl_Ratio h_kty_Ratio) (⟨h_ic1_Ratio, h_ic2_Ratio, h_ic3_Ratio, h_ic4_Ratio⟩) (if_pos (beq_self_eq_true _)) (FD_Ratio_init) (h_k_Ratio_init) (h_i_Ratio_init) (KD_Ratio_init.choose_spec.1) (KD_Ratio_init.choose_spec.2) (KA_Ratio_init) (fun_mk h_l_ratio_of h_c_ratio_of h_k_ratio_of) ((fun_mk (st := s_ratio_of) h_l_ratio_of h_c_ratio_of h_k_ratio_of).binds (ps := P_ratio_of) fun _ _ _ _ _ _ us hl => match us, hl with | [_], _ => rfl) (h_k_ratio_of) (PySem.W.mg_of X G h_a_ratio_of) (fun_mk h_l_Ratio_add h_c_Ratio_add h_k_Ratio_add) ((fun_mk (st := s_Ratio_add) h_l_Ratio_add h_c_Ratio_add h_k_Ratio_add).binds (ps := P_Ratio_add) fun _ _ _ _ _ _ us hl => match us, hl with | [_, _], _ => rfl) (h_k_Ratio_add) (h_i_Ratio_add) (h_a_Ratio_add) (fun_mk h_l_Ratio_radd h_c_Ratio_radd h_k_Ratio_radd) ((fun_mk (st := s_Ratio_radd) h_l_Ratio_radd h_c_Ratio_radd h_k_Ratio_radd).binds (ps := P_Ratio_radd) fun _ _ _ _ _ _ us hl => match us, hl with | [_, _], _ => rfl) (h_k_Ratio_radd) (h_i_Ratio_radd) (h_a_Ratio_radd) (fun_mk h_l_Ratio_neg h_c_Ratio_neg h_k_Ratio_neg) ((fun_mk (st := s_Ratio_neg) h_l_Ratio_neg h_c_Ratio_neg h_k_Ratio_neg).binds (ps := P_Ratio_neg) fun _ _ _ _ _ _ us hl => match us, hl with | [_], _ => rfl) (h_k_Ratio_neg) (h_i_Ratio_neg) (h_a_Ratio_neg) (fun_mk h_l_Ratio_sub h_c_Ratio_sub h_k_Ratio_sub) ((fun_mk (st := s_Ratio_sub) h_l_Ratio_sub h_c_Ratio_sub h_k_Ratio_sub).binds (ps := P_Ratio_sub) fun _ _ _ _ _ _ us hl => match us, hl with | [_, _], _ => rfl) (h_k_Ratio_sub) (h_i_Ratio_sub) (h_a_Ratio_sub) (fun_mk h_l_Ratio_rsub h_c_Ratio_rsub h_k_Ratio_rsub) ((fun_mk (st := s_Ratio_rsub) h_l_Ratio_rsub h_c_Ratio_rsub h_k_Ratio_rsub).binds (ps := P_Ratio_rsub) fun _ _ _ _ _ _ us hl => match us, hl with | [_, _], _ => rfl) (h_k_Ratio_rsub) (h_i_Ratio_rsub) (h_a_Ratio_rsub) (fun_mk h_l_Ratio_eq h_c_Ratio_eq h_k_Ratio_eq) ((fun_mk (st := s_Ratio_eq) h_l_Ratio_eq h_c_Ratio_eq h_k_Ratio_eq).binds (ps := P_Ratio_eq) fun _ _ _ _ _ _ us hl => match us, hl with | [_, _], _ => rfl) (h_k_Ratio_eq) (h_i_Ratio_eq) (h_a_Ratio_eq) (fun_mk h_l_Ratio_lt h_c_Ratio_lt h_k_Ratio_lt) ((fun_mk (st := s_Ratio_lt) h_l_Ratio_lt h_c_Ratio_lt h_k_Ratio_lt).binds (ps := P_Ratio_lt) fun _ _ _ _ _ _ us hl => match us, hl with | [_, _], _ => rfl) (h_k_Ratio_lt) (h_i_Ratio_lt) (h_a_Ratio_lt) (fun_mk h_l_Ratio_le h_c_Ratio_le h_k_Ratio_le) ((fun_mk (st := s_Ratio_le) h_l_Ratio_le h_c_Ratio_le h_k_Ratio_le).binds (ps := P_Ratio_le) fun _ _ _ _ _ _ us hl => match us, hl with | [_, _], _ => rfl) (h_k_Ratio_le) (h_i_Ratio_le) (h_a_Ratio_le) (fun_mk h_l_Ratio_gt h_c_Ratio_gt h_k_Ratio_gt) ((fun_mk (st := s_Ratio_gt) h_l_Ratio_gt h_c_Ratio_gt h_k_Ratio_gt).binds (ps := P_Ratio_gt) fun _ _ _ _ _ _ us hl => match us, hl with | [_, _], _ => rfl) (h_k_Ratio_gt) (h_i_Ratio_gt) (h_a_Ratio_gt) (fun_mk h_l_Ratio_ge h_c_Ratio_ge h_k_Ratio_ge) ((fun_mk (st := s_Ratio_ge) h_l_Ratio_ge h_c_Ratio_ge h_k_Ratio_ge).binds (ps := P_Ratio_ge) fun _ _ _ _ _ _ us hl => match us, hl with | [_, _], _ => rfl) (h_k_Ratio_ge) (h_i_Ratio_ge) (h_a_Ratio_ge) (fun_mk h_l_l_pool h_c_l_pool h_k_l_pool) ((fun_mk (st := s_l_pool) h_l_l_pool h_c_l_pool h_k_l_pool).binds (ps := P_l_pool) fun _ _ _ _ _ _ us hl => match us, hl with | [_, _], _ => rfl) (h_k_l_pool) (PySem.W.mg_of X G h_a_l_pool) (fun_mk h_l_l_take h_c_l_take h_k_l_take) ((fun_mk (st := s_l_take) h_l_l_take h_c_l_take h_k_l_take).binds (ps := P_l_take) fun _ _ _ _ _ _ us hl => match us, hl with | [_, _], _ => rfl) (h_k_l_take) (PySem.W.mg_of X G h_a_l_take) (fun_mk h_l_l_number h_c_l_number h_k_l_number) ((fun_mk (st := s_l_number) h_l_l_number h_c_l_number h_k_l_number).binds (ps := P_l_number) fun _ _ _ _ _ _ us hl => match us, hl with | [_, _], _ => rfl) (h_k_l_number) (PySem.W.mg_of X G h_a_l_number) (fun_mk h_l_l_page h_c_l_page h_k_l_page) ((fun_mk (st := s_l_page) h_l_l_page h_c_l_page h_k_l_page).binds (ps := P_l_page) fun _ _ _ _ _ _ us hl => match us, hl with | [_, _], _ => rfl) (h_k_l_page) (PySem.W.mg_of X G h_a_l_page) (fun_mk h_l_l_due h_c_l_due h_k_l_due) ((fun_mk (st := s_l_due) h_l_l_due h_c_l_due h_k_l_due).binds (ps := P_l_due) fun _ _ _ _ _ _ us hl => match us, hl with | [_, _], _ => rfl) (h_k_l_due) (PySem.W.mg_of X G h_a_l_due) (fun_mk h_l_law h_c_law h_k_law) ((fun_mk (st := s_law) h_l_law h_c_law h_k_law).binds (ps := P_law) fun _ _ _ _ _ _ us hl => match us, hl with | [_], _ => rfl) (h_k_law) (PySem.W.mg_of X G h_a_law) (PySem.W.mg_of X G h_gg_gcd) (PySem.W.mg_none_of X G h_z_abs) (PySem.W.mg_none_of X G h_z_int) (PySem.W.mg_none_of X G h_z_isinstance) (PySem.W.mg_none_of X G h_z_len) (PySem.W.mg_none_of X G h_z_max) (PySem.W.mg_none_of X G h_z_min) (PySem.W.mg_none_of X G h_z_range)
  exact ⟨_, fun s v => .of_eq rfl, fun base _ _ => ok_law T⟩
theorem walk {l : PySem.W.OpenLaw} {q : Program} {loose : List Str} {XP : (Str → Option Value) → Heap → Prop} {YP : World → Heap → Prop} {d : DefRec} {K : Params → PySem.W.Frag} (hn : l.most = some 63) (hdf : d.params.defaults = [])
    (hY : ∀ (w : World) (h : Heap), YP w h → (K w.params).In h)
    (F : ∀ (w : World) (mg : Str → Option Value) (fa : Addr) (h : Heap), (K w.params).In h → h.Ns mainGlobals mg → mg d.name = some (.ref fa) →
      ∃ fd : FuncData, (∀ (s : Shared) (u : Value), BindsTo s fd ⟨[u], []⟩ [("_law_script", u)]) ∧ ∀ base : Heap, (K w.params).In base → base.Ns mainGlobals mg → FnOk l.prog w (K w.params) mg base CX0 13 fa fd ["_law_script"] (sp_law (K w.params))) :
    PySem.W.WalkO q loose XP YP l.row.toRowW d [] (fun f vs => PySem.call f vs) :=
  L2.walk_of (n := 63) (k := 13) (x := "_law_script") (CX := fun _ => CX0) (sp := fun w => sp_law (K w.params)) hn (by decide) hdf ⟨rfl, by decide, by decide⟩ hY F (fun _ _ a ns hl hO hS => ⟨a, ns, rfl, scr_of hO hS, hl, fun _ => rfl⟩) fun _ _ _ _ _ z => z
end K45

open PySem PySem.W PyProof.Rows in
set_option maxRecDepth 100000 in
set_option maxHeartbeats 0 in
theorem PySem.Challenge.cw_steppedtests_k45_whole_order_of_ratios_holds : PySem.Challenge.rw_steppedtests_k45_whole_order_of_ratios.Holds := by
  w_on; o_law; k_head; (case hw => w_witness2)
  k_fill
  refine K45.walk (l := PySem.Challenge.rw_steppedtests_k45_whole_order_of_ratios) rfl rfl (fun w h Y => PySem.W.kIn_of Y) ?F
  case F =>
    intro w mg fa h KX G hmg
    refine' K45.all_mk KX G hmg ?h_g_Ratio ?h_pg_Ratio ?h_hd_Ratio ?h_po_Ratio ?h_sa_Ratio ?h_mkk_Ratio ?h_kc_Ratio ?h_nA_Ratio_top ?h_nA_Ratio_bottom ?h_sf_Ratio ?h_ni_Ratio ?h_kty_Ratio ?h_kcl_Ratio ?h_ic1_Ratio ?h_ic2_Ratio ?h_ic3_Ratio ?h_ic4_Ratio ?h_a_Ratio_init ?h_i_Ratio_init ?h_l_Ratio_init ?h_c_Ratio_init ?h_k_Ratio_init ?h_kt_Ratio_init ?h_a_ratio_of ?h_l_ratio_of ?h_c_ratio_of ?h_k_ratio_of ?h_a_Ratio_add ?h_i_Ratio_add ?h_l_Ratio_add ?h_c_Ratio_add ?h_k_Ratio_add ?h_a_Ratio_radd ?h_i_Ratio_radd ?h_l_Ratio_radd ?h_c_Ratio_radd ?h_k_Ratio_radd ?h_a_Ratio_neg ?h_i_Ratio_neg ?h_l_Ratio_neg ?h_c_Ratio_neg ?h_k_Ratio_neg ?h_a_Ratio_sub ?h_i_Ratio_sub ?h_l_Ratio_sub ?h_c_Ratio_sub ?h_k_Ratio_sub ?h_a_Ratio_rsub ?h_i_Ratio_rsub ?h_l_Ratio_rsub ?h_c_Ratio_rsub ?h_k_Ratio_rsub ?h_a_Ratio_eq ?h_i_Ratio_eq ?h_l_Ratio_eq ?h_c_Ratio_eq ?h_k_Ratio_eq ?h_a_Ratio_lt ?h_i_Ratio_lt ?h_l_Ratio_lt ?h_c_Ratio_lt ?h_k_Ratio_lt ?h_a_Ratio_le ?h_i_Ratio_le ?h_l_Ratio_le ?h_c_Ratio_le ?h_k_Ratio_le ?h_a_Ratio_gt ?h_i_Ratio_gt ?h_l_Ratio_gt ?h_c_Ratio_gt ?h_k_Ratio_gt ?h_a_Ratio_ge ?h_i_Ratio_ge ?h_l_Ratio_ge ?h_c_Ratio_ge ?h_k_Ratio_ge ?h_a_l_pool ?h_l_l_pool ?h_c_l_pool ?h_k_l_pool ?h_a_l_take ?h_l_l_take ?h_c_l_take ?h_k_l_take ?h_a_l_number ?h_l_l_number ?h_c_l_number ?h_k_l_number ?h_a_l_page ?h_l_l_page ?h_c_l_page ?h_k_l_page ?h_a_l_due ?h_l_l_due ?h_c_l_due ?h_k_l_due ?h_a_law ?h_l_law ?h_c_law ?h_k_law ?h_gg_gcd ?h_z_abs ?h_z_int ?h_z_isinstance ?h_z_len ?h_z_max ?h_z_min ?h_z_range
    (case h_g_Ratio => k_is)
    (case h_pg_Ratio => k_is)
    (case h_hd_Ratio => k_is)
    (case h_po_Ratio => k_is)
    (case h_sa_Ratio => k_is)
    (case h_mkk_Ratio => k_is)
    (case h_kc_Ratio => k_is)
    (case h_nA_Ratio_top => k_is)
    (case h_nA_Ratio_bottom => k_is)
    (case h_sf_Ratio => k_is)
    (case h_ni_Ratio => k_is)
    (case h_kty_Ratio => k_is)
    (case h_kcl_Ratio => k_is)
    (case h_ic1_Ratio => k_is)
    (case h_ic2_Ratio => k_is)
    (case h_ic3_Ratio => k_is)
    (case h_ic4_Ratio => k_is)
    (case h_a_Ratio_init => k_is)
    (case h_i_Ratio_init => k_is)
    (case h_l_Ratio_init => k_is)
    (case h_c_Ratio_init => k_is)
    (case h_k_Ratio_init => k_is)
    (case h_kt_Ratio_init => k_is)
    (case h_a_ratio_of => k_is)
    (case h_l_ratio_of => k_is)
    (case h_c_ratio_of => k_is)
    (case h_k_ratio_of => k_is)
    (case h_a_Ratio_add => k_is)
    (case h_i_Ratio_add => k_is)
    (case h_l_Ratio_add => k_is)
    (case h_c_Ratio_add => k_is)
    (case h_k_Ratio_add => k_is)
    (case h_a_Ratio_radd => k_is)
    (case h_i_Ratio_radd => k_is)
    (case h_l_Ratio_radd => k_is)
    (case h_c_Ratio_radd => k_is)
    (case h_k_Ratio_radd => k_is)
    (case h_a_Ratio_neg => k_is)
    (case h_i_Ratio_neg => k_is)
    (case h_l_Ratio_neg => k_is)
    (case h_c_Ratio_neg => k_is)
    (case h_k_Ratio_neg => k_is)
    (case h_a_Ratio_sub => k_is)
    (case h_i_Ratio_sub => k_is)
    (case h_l_Ratio_sub => k_is)
    (case h_c_Ratio_sub => k_is)
    (case h_k_Ratio_sub => k_is)
    (case h_a_Ratio_rsub => k_is)
    (case h_i_Ratio_rsub => k_is)
    (case h_l_Ratio_rsub => k_is)
    (case h_c_Ratio_rsub => k_is)
    (case h_k_Ratio_rsub => k_is)
    (case h_a_Ratio_eq => k_is)
    (case h_i_Ratio_eq => k_is)
    (case h_l_Ratio_eq => k_is)
    (case h_c_Ratio_eq => k_is)
    (case h_k_Ratio_eq => k_is)
    (case h_a_Ratio_lt => k_is)
    (case h_i_Ratio_lt => k_is)
    (case h_l_Ratio_lt => k_is)
    (case h_c_Ratio_lt => k_is)
    (case h_k_Ratio_lt => k_is)
    (case h_a_Ratio_le => k_is)
    (case h_i_Ratio_le => k_is)
    (case h_l_Ratio_le => k_is)
    (case h_c_Ratio_le => k_is)
    (case h_k_Ratio_le => k_is)
    (case h_a_Ratio_gt => k_is)
    (case h_i_Ratio_gt => k_is)
    (case h_l_Ratio_gt => k_is)
    (case h_c_Ratio_gt => k_is)
    (case h_k_Ratio_gt => k_is)
    (case h_a_Ratio_ge => k_is)
    (case h_i_Ratio_ge => k_is)
    (case h_l_Ratio_ge => k_is)
    (case h_c_Ratio_ge => k_is)
    (case h_k_Ratio_ge => k_is)
    (case h_a_l_pool => k_is)
    (case h_l_l_pool => k_is)
    (case h_c_l_pool => k_is)
    (case h_k_l_pool => k_is)
    (case h_a_l_take => k_is)
    (case h_l_l_take => k_is)
    (case h_c_l_take => k_is)
    (case h_k_l_take => k_is)
    (case h_a_l_number => k_is)
    (case h_l_l_number => k_is)
    (case h_c_l_number => k_is)
    (case h_k_l_number => k_is)
    (case h_a_l_page => k_is)
    (case h_l_l_page => k_is)
    (case h_c_l_page => k_is)
    (case h_k_l_page => k_is)
    (case h_a_l_due => k_is)
    (case h_l_l_due => k_is)
    (case h_c_l_due => k_is)
    (case h_k_l_due => k_is)
    (case h_a_law => k_is)
    (case h_l_law => k_is)
    (case h_c_law => k_is)
    (case h_k_law => k_is)
    (case h_gg_gcd => k_is)
    (case h_z_abs => k_is)
    (case h_z_int => k_is)
    (case h_z_isinstance => k_is)
    (case h_z_len => k_is)
    (case h_z_max => k_is)
    (case h_z_min => k_is)
    (case h_z_range => k_is)
