import PyProof.Rows.All
import Wide.All
import OpenK.AllK
import Wide.FinOn
import HandS.ForMost
import HandS.ForExc
import HandS.OwnEq
import HandS.Wide
import HandS.SetFor
import HandS.Strs
import HandS.IsInst
import HandS.TupAny
import HandS.Style
import HandS.Codes
import HandS.Flow
import HandS.Evl
import HandS.Conv
import KE.KEqDeep
import HandS.ExcInit
import HandS.ExcField
import HandS.ExcIs
import HandS.FStr
import HandS.TryMany
import HandS.Defaults
import HandS.Iter
import HandS.Zip
import HandS.Text
import HandS.RevRange
import HandS.Sort
import HandS.Comp
import KE.KOpsOwn
import HandS.Gcd
import HandS.TryOnly
import KE.KCallOwn
import PyProof.Conv_bool
import PySem.Challenge.RW_steppedtests_k43_ratios_built
set_option Elab.async false
set_option linter.all false
set_option maxRecDepth 100000
set_option exponentiation.threshold 1000
set_option maxHeartbeats 4000000
namespace L2
open PySem PySem.Spec PyProof.Rows
/-! ## own special methods of a class: | & - by __or__ .., <= == by __le__ .., in by __contains__, len by __len__ -/
section
variable {X : Cx} {n : Nat} {CX : CXT} {C f : Addr} {fd : FuncData} {ps : List Str} {sp : Sp} {E : XK} {pins : List (Addr × Obj)} {σ : St} {H : Hp} {s : Shared}
theorem run_own {A : Around} {vs : List V} {us : List Value} {Q : VK} (F : FnOk X.prog X.w X.K X.mg X.base CX n f fd ps sp) (sb : Sub X n A) (hb : Binds X.K fd ps []) (hx : Passes CX X E)
    (I : Inv X pins σ H s) (r : Vals vs us) (h : sp vs H Q E) : wpAny (model X.prog X.w) A (call (.ref f) us) (EP X pins σ Q) X.xe s := by
  have e0 : Env0 X.prog X.w X.K X.mg X.base A X.stack s H := by
    have e := I.env0
    exact ⟨by rw [sb.fr]; exact e.frames, e.mod, e.bs, e.bsz, e.funs, e.frf, e.hok, e.bare⟩
  have hl := F.len _ _ _ _ h
  have hl2 : us.length = ps.length := by rw [← hl, r.length]
  refine wpAny_call (codeAny_mono (F.run A X.stack s H ⟨us, []⟩ us vs Q E sb.room e0 (by
    have := hb s us I.kIn (by simpa using hl2)
    simpa using this) r h) fun r' s' hq => ?_)
  cases r' with
  | error e => exact hx pins σ H s e s' I hq
  | ok fl =>
    cases fl with
    | ret w => exact I.after hq
    | next => exact False.elim hq
    | brk => exact False.elim hq
    | cont => exact False.elim hq
/-- a value of the layer is never NotImplemented -/
theorem back_ep {u : Value} {s' : Shared} {Q : VK} (h : EP X pins σ Q u s') : PySem.W.CmpBack (EP X pins σ Q) u s' := by
  obtain ⟨v, H', I', r, q⟩ := id h
  cases v with
  | non => cases r; exact h
  | bl b => cases r; exact h
  | int i => obtain ⟨t, rfl⟩ := r; exact h
  | str x => obtain ⟨t, rfl⟩ := r; exact h
  | byt x => obtain ⟨t, rfl⟩ := r; exact h
  | flt x => obtain ⟨t, rfl⟩ := r; exact h
  | ref a => cases r; exact h
  | ty m => cases r; exact h
def rOwn (C : Addr) (sp : Sp) (E : XK) : R2 := fun x y H Q => ∃ a b dx dy fs gs, x = .ref a ∧ y = .ref b ∧ H a = some (.ins C dx fs) ∧ H b = some (.ins C dy gs) ∧ sp [.ref a, .ref b] H Q E
theorem op_own {op : Operator} (F : FnOk X.prog X.w X.K X.mg X.base CX n f fd ps sp) (hr : Room n X.A) (hs : PySem.W.findIn X.K (.ref C) (PySem.dunder op.info.2) = some (some (.ref f))) (hf : PySem.W.isFn X.K (.ref f) = true)
    (hc : PySem.W.selfFirst X.K C = true) (hb : Binds X.K fd ps []) (hx : Passes CX X E) : OpR X (binaryOp op) (rOwn C sp E) := by
  intro pins s σ H x y v u Q I rx ry h
  obtain ⟨a, b, dx, dy, fs, gs, rfl, rfl, ha, hb', h⟩ := h
  cases rx
  cases ry
  obtain ⟨mA, J, _⟩ := ins_get I.hok ha
  obtain ⟨mB, J', _⟩ := ins_get I.hok hb'
  obtain ⟨od, J, _⟩ := J.look
  obtain ⟨od', J', _⟩ := J'.look
  obtain ⟨m, hF⟩ := I.fr
  refine PySem.W.binop_K hF I.ok.mod.kin J J'.type hc hs hf ?_
  exact thn (run_own (vs := [.ref a, .ref b]) F ⟨hr, rfl⟩ hb hx I (.cons rfl (.cons rfl .nil)) h) fun u s' q => back_ep q
theorem cmp_own {op : CmpOp} (F : FnOk X.prog X.w X.K X.mg X.base CX n f fd ps sp) (hr : Room n X.A) (hs : PySem.W.findIn X.K (.ref C) (PySem.cmpInfo op).2.1 = some (some (.ref f))) (hf : PySem.W.isFn X.K (.ref f) = true)
    (hb : Binds X.K fd ps []) (hx : Passes CX X E) : OpR X (richCompare op) (rOwn C sp E) := by
  intro pins s σ H x y v u Q I rx ry h
  obtain ⟨a, b, dx, dy, fs, gs, rfl, rfl, ha, hb', h⟩ := h
  cases rx
  cases ry
  obtain ⟨mA, J, _⟩ := ins_get I.hok ha
  obtain ⟨mB, J', _⟩ := ins_get I.hok hb'
  obtain ⟨od, J, _⟩ := J.look
  obtain ⟨od', J', _⟩ := J'.look
  obtain ⟨m, hF⟩ := I.fr
  refine PySem.W.cmp_K hr.units0 hF I.ok.mod.kin J J'.type (by simp [PySem.W.notFirst]) hs hf ?_
  exact thn (run_own (vs := [.ref a, .ref b]) F ⟨hr, rfl⟩ hb hx I (.cons rfl (.cons rfl .nil)) h) fun u s' q => back_ep q
def rOwnIn (C : Addr) (sp : Sp) (E : XK) (neg : Bool) : R2 := fun x y H Q => ∃ b dy gs, y = .ref b ∧ H b = some (.ins C dy gs) ∧ sp [.ref b, x] H (fun v H' => ∃ k, v = .bl k ∧ Q (.bl (if neg then !k else k)) H') E
theorem in_own (F : FnOk X.prog X.w X.K X.mg X.base CX n f fd ps sp) (hr : Room n X.A) (hs : PySem.W.findIn X.K (.ref C) "__contains__" = some (some (.ref f))) (hf : PySem.W.isFn X.K (.ref f) = true)
    (hb : Binds X.K fd ps []) (hx : Passes CX X E) : OpR X (compareOp .In) (rOwnIn C sp E false) := by
  intro pins s σ H x y v u Q I rx ry h
  obtain ⟨b, dy, gs, rfl, hb', h⟩ := h
  cases ry
  obtain ⟨mB, J', _⟩ := ins_get I.hok hb'
  obtain ⟨od', J', _⟩ := J'.look
  obtain ⟨m, hF⟩ := I.fr
  refine PySem.W.in_K hF I.ok.mod.kin J' hs hf ?_
  refine thn (run_own (vs := [.ref b, x]) F ⟨hr, rfl⟩ hb hx I (.cons rfl (.cons rx .nil)) h) fun u s' q => ?_
  obtain ⟨z, H', I', rz, k, rfl, q⟩ := q
  cases rz
  exact wpAny_truthy_bool ⟨.bl k, H', I', rfl, q⟩
theorem notIn_own (F : FnOk X.prog X.w X.K X.mg X.base CX n f fd ps sp) (hr : Room n X.A) (hs : PySem.W.findIn X.K (.ref C) "__contains__" = some (some (.ref f))) (hf : PySem.W.isFn X.K (.ref f) = true)
    (hb : Binds X.K fd ps []) (hx : Passes CX X E) : OpR X (compareOp .NotIn) (rOwnIn C sp E true) := by
  intro pins s σ H x y v u Q I rx ry h
  obtain ⟨b, dy, gs, rfl, hb', h⟩ := h
  cases ry
  obtain ⟨mB, J', _⟩ := ins_get I.hok hb'
  obtain ⟨od', J', _⟩ := J'.look
  obtain ⟨m, hF⟩ := I.fr
  refine PySem.W.notIn_K hF I.ok.mod.kin J' hs hf ?_
  refine thn (run_own (vs := [.ref b, x]) F ⟨hr, rfl⟩ hb hx I (.cons rfl (.cons rx .nil)) h) fun u s' q => ?_
  obtain ⟨z, H', I', rz, k, rfl, q⟩ := q
  cases rz
  exact wpAny_truthy_bool ⟨.bl (!k), H', I', rfl, q⟩
def rOwnLen (C : Addr) (sp : Sp) (E : XK) : List V → Hp → VK → Prop := fun xs H Q => ∃ b dy gs, xs = [.ref b] ∧ H b = some (.ins C dy gs) ∧ sp [.ref b] H (fun v H' => ∃ k : Int, v = .int k ∧ 0 ≤ k ∧ k < 2 ^ 63 ∧ Q (.int k) H') E
theorem len_own (F : FnOk X.prog X.w X.K X.mg X.base CX n f fd ps sp) (hr : Room (n + 1) X.A) (hs : PySem.W.findIn X.K (.ref C) "__len__" = some (some (.ref f))) (hf : PySem.W.isFn X.K (.ref f) = true)
    (hb : Binds X.K fd ps []) (hx : Passes CX X E) : CallR X (.builtin "len") (rOwnLen C sp E) := by
  intro pins s σ H xs us Q I r h
  obtain ⟨b, dy, gs, rfl, hb', h⟩ := h
  rw [Vals.ref1 r]
  obtain ⟨mB, J', _⟩ := ins_get I.hok hb'
  obtain ⟨od', J', _⟩ := J'.look
  obtain ⟨m, hF⟩ := I.fr
  refine PySem.W.len_K hF I.ok.mod.kin J' hs hf ?_
  have sb : Sub X (n + 1) X.A := ⟨hr, rfl⟩
  refine thn (run_own (vs := [.ref b]) F sb.in1 hb hx I (.cons rfl .nil) h) fun u s' q => ?_
  obtain ⟨z, H', I', rz, k, rfl, h0, h1, q⟩ := q
  obtain ⟨t, rfl⟩ := rz
  exact ⟨⟨h0, h1⟩, .int k, H', I'.tok _, ⟨_, rfl⟩, q⟩
/-- web[i] by an own __getitem__ -/
def rOwnIx (C : Addr) (sp : Sp) (E : XK) : R2 := fun x y H Q => ∃ a dx fs, x = .ref a ∧ H a = some (.ins C dx fs) ∧ sp [.ref a, y] H Q E
theorem pe_ownIx {a b : Expr} {ta tb : TE} {pos : Pos} (F : FnOk X.prog X.w X.K X.mg X.base CX n f fd ps sp) (hr : Room (n + 1) X.A) (hs : PySem.W.findIn X.K (.ref C) "__getitem__" = some (some (.ref f))) (hfn : PySem.W.fnIn X.K f = true) (hf : PySem.W.isFn X.K (.ref f) = true)
    (hb : Binds X.K fd ps []) (hx : Passes CX X E) (ha : PE X a ta) (hb' : PE X b tb)
    (hsl : ∀ x i, subscripted b true (.ref x) i = runValue (.builtin "lifetime.subscript" ⟨[.ref x, i], []⟩) := by intro _ _; with_unfolding_all rfl) : PE X (.Subscript a b pos) (tOp (rOwnIx C sp E) ta tb) := by
  refine ⟨fun pins s σ H Q I h => ?_⟩
  refine Subscript_ (binT ha hb' I h fun v u s2 x y H2 I2 rx ry q => ?_)
  obtain ⟨c, dx, fs, rfl, hc, q⟩ := q
  cases rx
  obtain ⟨mB, J', _⟩ := ins_get I2.hok hc
  obtain ⟨od', J', _⟩ := J'.look
  obtain ⟨m, hF⟩ := I2.fr
  have sb : Sub X (n + 1) X.A := ⟨hr, rfl⟩
  exact PySem.W.sub_K hF I2.ok.mod.kin J' hs hfn hf (run_own (vs := [.ref c, y]) F sb.in1 hb hx I2 (.cons rfl (.cons ry .nil)) q) (hsl _ _)
/-- set(t), t a tuple of ints -/
def rSetOf (K : PySem.W.Frag) (w : World) : List V → Hp → VK → Prop := fun xs H Q => ∃ (l : Addr) (ns : List Int), xs = [V.ref l] ∧ SqT K H l (ns.map V.int) ∧ ns.length ≤ 1000 ∧
  ∀ p c, H p = none → c ≤ ns.length → (∀ L : List Int, (∀ k ∈ ns, k ∈ L) → c ≤ L.length) → Q (.ref p) (upd H p (SetO w p (fun j => decide (j ∈ ns)) c))
theorem nodup_le : ∀ (l D : List Int), l.Nodup → (∀ x ∈ l, x ∈ D) → l.length ≤ D.length
  | [], _, _, _ => Nat.zero_le _
  | x :: r, D, hn, h => by
    have hx : x ∈ D := h x List.mem_cons_self
    obtain ⟨h1, h2⟩ := List.nodup_cons.mp hn
    have ih := nodup_le r (D.erase x) h2 fun y hy => by
      have hne : y ≠ x := fun e => h1 (e ▸ hy)
      exact (List.mem_erase_of_ne hne).mpr (h y (List.mem_cons_of_mem _ hy))
    rw [List.length_erase_of_mem hx] at ih
    have : 0 < D.length := List.length_pos_of_mem hx
    rw [List.length_cons]
    omega
theorem cr_setOf (hc : X.calm = true) : CallR X (.type "set") (rSetOf X.K X.w) := by
  intro pins s σ H xs us Q I r h
  obtain ⟨l, ns, rfl, hq, hl, q⟩ := h
  rw [Vals.ref1 r]
  obtain ⟨its, rv, pt, hz⟩ := I.tuple hq
  have hi : IntsAre its.toArray.toList ns := by simpa using ints_of_vals rv
  refine call_set_tupI ns (I.ok.hd hc) (show s.heap.IsTuple l its.toArray from pt) hi (by unfold scanBound; omega) fun h' tk c R hcn k => ?_
  have hn : H s.heap.objs.size = none := I.hok.fresh (Nat.le_refl _)
  refine ⟨.ref s.heap.objs.size, upd H s.heap.objs.size (SetO X.w s.heap.objs.size (fun j => decide (j ∈ ns)) c), I.laid (t' := tk) k (Nat.le_refl _) (setO_new R), rfl, q _ c hn hcn fun L hL => ?_⟩
  obtain ⟨o, es, ep, t, ho, hex, hdt, g, nd, hm2, hb, hf, hn2, hr, hl2⟩ := R
  have z := nodup_le _ L nd fun x hx => hL x (of_decide_eq_true ((hm2 x).mpr hx))
  rw [List.length_map, Array.length_toList, hn2] at z
  exact z
end
end L2

namespace L2
open PySem PySem.Spec PyProof.Rows
/-! ## heaps that keep all but the pool -/
def isPool (o : HO) : Prop := ∃ (a : Addr) (c i b s : Int), o = .lst [.ref a, .int c, .int i, .int b, .int s]
def Gd (H H' : Hp) : Prop := (∀ b o, ¬ isPool o → H b = some o → H' b = some o) ∧ ∀ b o, isPool o → H b = some o → ∃ o', isPool o' ∧ H' b = some o'
theorem Gd.refl (H : Hp) : Gd H H := ⟨fun _ _ _ h => h, fun _ o n h => ⟨o, n, h⟩⟩
theorem Gd.trans {H H1 H2 : Hp} (a : Gd H H1) (b : Gd H1 H2) : Gd H H2 := ⟨fun x o n h => b.1 x o n (a.1 x o n h), fun x o n h => let ⟨o', n', h'⟩ := a.2 x o n h; b.2 x o' n' h'⟩
theorem Same.gd {H H' : Hp} (h : Same H H') : Gd H H' := ⟨fun b o _ e => h b o e, fun b o n e => ⟨o, n, h b o e⟩⟩
theorem fresh_gd {H H' : Hp} {p : Addr} (e : Gd H H') (h : H' p = none) : H p = none := by
  cases q : H p with
  | none => rfl
  | some o =>
    exfalso
    by_cases n : isPool o
    · obtain ⟨o', _, h'⟩ := e.2 p o n q
      rw [h] at h'
      cases h'
    · have := e.1 p o n q
      rw [h] at this
      cases this
theorem np_ints (ns : List Int) : ¬ isPool (.lst (ns.map V.int)) := by
  rintro ⟨a, c, i, b, s, h⟩
  cases ns with
  | nil => cases h
  | cons x r => injection h with h; injection h with h _; cases h
theorem np_frz (o : Obj) (u : HO) : ¬ isPool (.frz o u) := by rintro ⟨a, c, i, b, s, h⟩; cases h
theorem np_tup (xs : List V) : ¬ isPool (.tup xs) := by rintro ⟨a, c, i, b, s, h⟩; cases h
theorem np_ins (C dx : Addr) (fs : List (Str × V)) : ¬ isPool (.ins C dx fs) := by rintro ⟨a, c, i, b, s, h⟩; cases h
theorem Gd.seq {K : PySem.W.Frag} {H H' : Hp} {a : Addr} {ns : List Int} (e : Gd H H') (h : SqL K H a (ns.map V.int)) : SqL K H' a (ns.map V.int) := by
  rcases h with (h | ⟨o, h⟩) | h
  · exact .inl (.inl (e.1 _ _ (np_ints ns) h))
  · exact .inl (.inr ⟨o, e.1 _ _ (np_frz _ _) h⟩)
  · exact .inr h
theorem Same.seqT {K : PySem.W.Frag} {H H' : Hp} {a : Addr} {xs : List V} (e : Same H H') (h : SqT K H a xs) : SqT K H' a xs := by
  rcases h with (h | ⟨o, h⟩) | h
  · exact .inl (.inl (e _ _ h))
  · exact .inl (.inr ⟨o, e _ _ h⟩)
  · exact .inr h
theorem same_upd {H : Hp} {p : Addr} {o : HO} (h : H p = none) : Same H (upd H p o) := fun b x e => by
  rw [upd_ne (ne_of_none e h)]
  exact e
/-- a heap made from H' by changing p, which H did not know -/
theorem Same.mut {H H' : Hp} {p : Addr} {o : HO} (e : Same H H') (h : H p = none) : Same H (upd H' p o) := fun a u ha => by
  rw [upd_ne (ne_of_none ha h)]
  exact e a u ha
theorem Gd.mut {H H' : Hp} {p : Addr} {o : HO} (e : Gd H H') (h : H p = none) : Gd H (upd H' p o) := ⟨fun a u n ha => by
  rw [upd_ne (ne_of_none ha h)]
  exact e.1 a u n ha, fun a u n ha => by
  rw [upd_ne (ne_of_none ha h)]
  exact e.2 a u n ha⟩
theorem Gd.upd {H H' : Hp} {p : Addr} {o : HO} (e : Gd H H') (h : H' p = none) : Gd H (upd H' p o) := e.mut (fresh_gd e h)
/-- the script: known to the object, or of the written part -/
def ScrAt (K : PySem.W.Frag) (H : Hp) (a : Addr) (xs : List V) : Prop :=
  (∃ o, H a = some (.frz o (.lst xs))) ∨ ∃ (o : Obj) (its : Array Value) (n : Nat), K.lookup a = some o ∧ o.cls = .type "list" ∧ o.dict = none ∧ o.data = .seq its n ∧ its.size ≤ sizeLine ∧ Vals xs its.toList
theorem ScrAt.seq {K : PySem.W.Frag} {H : Hp} {a : Addr} {xs : List V} (h : ScrAt K H a xs) : SqL K H a xs := h.elim (fun ⟨o, h⟩ => .inl (.inr ⟨o, h⟩)) fun h => .inr h
theorem ScrAt.gd {K : PySem.W.Frag} {H H' : Hp} {a : Addr} {xs : List V} (e : Gd H H') (h : ScrAt K H a xs) : ScrAt K H' a xs := h.elim (fun ⟨o, h⟩ => .inl ⟨o, e.1 _ _ (np_frz _ _) h⟩) fun h => .inr h
theorem ScrAt.mut {K : PySem.W.Frag} {H : Hp} {a D : Addr} {xs ys : List V} {o : HO} (hD : H D = some (.lst ys)) (h : ScrAt K H a xs) : ScrAt K (upd H D o) a xs :=
  h.elim (fun ⟨u, h⟩ => .inl ⟨u, by rw [upd_ne (ne_of h hD (by intro z; cases z))]; exact h⟩) fun h => .inr h
theorem scr_of {K : PySem.W.Frag} {H : Hp} {a : Addr} {xs : List V} (hO : Only H) (h : SqL K H a xs) : ScrAt K H a xs := by
  rcases h with (h | ⟨o, h⟩) | h
  · rcases hO a with z | ⟨o, ys, z⟩
    · rw [h] at z; cases z
    · rw [h] at z; cases z
  · exact .inl ⟨o, h⟩
  · exact .inr h
/-- the pool at p has drawn at most c times -/
def PoolOk (K : PySem.W.Frag) (p : Addr) (c : Nat) (H : Hp) : Prop := ∃ (sa : Addr) (ns : List Int) (c' i b s : Int), ScrAt K H sa (ns.map V.int) ∧ H p = some (.lst [.ref sa, .int c', .int i, .int b, .int s]) ∧ 0 ≤ c' ∧ c' ≤ (c : Int) ∧ 0 ≤ i ∧ i ≤ (ns.length : Int) ∧ 0 ≤ b ∧ 0 ≤ s ∧ s < 2147483629
theorem PoolOk.same {K : PySem.W.Frag} {p : Addr} {c : Nat} {H H' : Hp} (h : PoolOk K p c H) (e : Same H H') : PoolOk K p c H' := by
  obtain ⟨sa, ns, c', i, b, s, h1, h2, h3⟩ := h
  exact ⟨sa, ns, c', i, b, s, h1.gd e.gd, e _ _ h2, h3⟩
theorem PoolOk.mono {K : PySem.W.Frag} {p : Addr} {c d : Nat} {H : Hp} (h : PoolOk K p c H) (e : c ≤ d) : PoolOk K p d H := by
  obtain ⟨sa, ns, c', i, b, s, h1, h2, h3, h4, h5⟩ := h
  exact ⟨sa, ns, c', i, b, s, h1, h2, h3, by omega, h5⟩
/-- the pool is known, so a new address is another one -/
theorem PoolOk.ne {K : PySem.W.Frag} {p q : Addr} {c : Nat} {H : Hp} (h : PoolOk K p c H) (e : H q = none) : p ≠ q := by
  obtain ⟨sa, ns, c', i, b, s, h1, h2, h3⟩ := h
  exact ne_of_none h2 e
theorem PoolOk.upd {K : PySem.W.Frag} {p q : Addr} {c : Nat} {H : Hp} {o : HO} (h : PoolOk K p c H) (e : H q = none) : PoolOk K p c (upd H q o) := h.same (same_upd e)
/-- a list that stands (not the pool's) is changed: the pool stays -/
theorem PoolOk.mut {K : PySem.W.Frag} {p D : Addr} {c : Nat} {H : Hp} {ys : List V} {o : HO} (h : PoolOk K p c H) (hD : H D = some (.lst ys)) (n : ¬ isPool (.lst ys)) : PoolOk K p c (L2.upd H D o) := by
  obtain ⟨sa, ns, c', i, b, s, h1, h2, h3⟩ := h
  refine ⟨sa, ns, c', i, b, s, h1.mut hD, ?_, h3⟩
  rw [upd_ne (fun e => by
    subst e
    rw [h2] at hD
    injection hD with hD
    exact n ⟨sa, c', i, b, s, hD.symm⟩)]
  exact h2
theorem tyes {σ : St} {H : Hp} {A B : Hp → Prop} (h : A H) : tYes σ H fun b H3 => if b = true then A H3 else B H3 := by
  unfold tYes
  dsimp only
  rw [if_pos rfl]
  exact h
def pl (sa : Addr) (c i b s : Int) : HO := .lst [.ref sa, .int c, .int i, .int b, .int s]
theorem pl_pool (sa : Addr) (c i b s : Int) : isPool (pl sa c i b s) := ⟨sa, c, i, b, s, rfl⟩
theorem gd_pool {H : Hp} {p sa sa' : Addr} {c i b s c' i' b' s' : Int} (h : H p = some (pl sa c i b s)) : Gd H (upd H p (pl sa' c' i' b' s')) := ⟨fun x u n e => by
  have hx : x ≠ p := fun z => by
    subst z
    rw [h] at e
    injection e with e
    exact n ⟨sa, c, i, b, s, e.symm⟩
  rw [upd_ne hx]
  exact e, fun x u n e => by
  by_cases hx : x = p
  · subst hx
    exact ⟨_, pl_pool _ _ _ _ _, upd_same⟩
  · exact ⟨u, n, by rw [upd_ne hx]; exact e⟩⟩
def LIM : Nat := 1099511627776
def spDraw (K : PySem.W.Frag) : Sp := fun vs H Q _ => ∃ (p : Addr) (c : Nat) (lim : Int), vs = [.ref p, .int lim] ∧ PoolOk K p c H ∧ c < LIM ∧ 0 < lim ∧ lim < 2 ^ 200 ∧
  ∀ H' r, Gd H H' → PoolOk K p (c + 1) H' → 0 ≤ r → r < lim → Q (.int r) H'
def spPool (K : PySem.W.Frag) : Sp := fun vs H Q _ => ∃ (x : Addr) (ns : List Int), vs = [.ref x] ∧ ScrAt K H x (ns.map V.int) ∧ ∀ p H', H p = none → Same H H' → PoolOk K p 0 H' → Q (.ref p) H'
theorem atI0 {α : Type} {x : α} {r : List α} : atI (x :: r) 0 = some x := atI_nat (j := 0) rfl
theorem atI1 {α : Type} {x y : α} {r : List α} : atI (x :: y :: r) 1 = some y := atI_nat (j := 1) rfl
theorem atI2 {α : Type} {x y z : α} {r : List α} : atI (x :: y :: z :: r) 2 = some z := atI_nat (j := 2) rfl
theorem atI3 {α : Type} {x y z u : α} {r : List α} : atI (x :: y :: z :: u :: r) 3 = some u := atI_nat (j := 3) rfl
theorem atI4 {α : Type} {x y z u v : α} {r : List α} : atI (x :: y :: z :: u :: v :: r) 4 = some v := atI_nat (j := 4) rfl
/-! ## sets of questions by their ascending lists -/
def ask48 : List Int := (List.range 48).map fun i => ((i : Nat) : Int)
def norm (l : List Int) : List Int := ask48.filter fun x => decide (x ∈ l)
theorem mem_ask {x : Int} : x ∈ ask48 ↔ 0 ≤ x ∧ x < 48 := by
  unfold ask48
  rw [List.mem_map]
  constructor
  · rintro ⟨i, h, rfl⟩
    have := List.mem_range.mp h
    omega
  · rintro ⟨h0, h1⟩
    exact ⟨x.toNat, List.mem_range.mpr (by omega), by omega⟩
theorem mem_norm {l : List Int} {x : Int} : x ∈ norm l ↔ (0 ≤ x ∧ x < 48) ∧ x ∈ l := by
  unfold norm
  rw [List.mem_filter, mem_ask, decide_eq_true_eq]
theorem ask_sorted : ask48.Pairwise (· < ·) := by
  unfold ask48
  rw [List.pairwise_map]
  exact List.Pairwise.imp (fun h => by omega) List.pairwise_lt_range
theorem norm_sorted (l : List Int) : (norm l).Pairwise (· < ·) := ask_sorted.sublist List.filter_sublist
theorem norm_len (l : List Int) : (norm l).length ≤ 48 := by
  refine Nat.le_trans (List.length_filter_le _ _) ?_
  unfold ask48
  rw [List.length_map, List.length_range]
  exact Nat.le_refl _
theorem sorted_ext : ∀ {l l' : List Int}, l.Pairwise (· < ·) → l'.Pairwise (· < ·) → (∀ x, x ∈ l ↔ x ∈ l') → l = l'
  | [], [], _, _, _ => rfl
  | [], b :: r, _, _, h => absurd ((h b).mpr List.mem_cons_self) (by simp)
  | a :: r, [], _, _, h => absurd ((h a).mp List.mem_cons_self) (by simp)
  | a :: r, b :: s, h1, h2, h => by
    obtain ⟨ha, hr⟩ := List.pairwise_cons.mp h1
    obtain ⟨hb, hs⟩ := List.pairwise_cons.mp h2
    have e : a = b := by
      rcases List.mem_cons.mp ((h a).mp List.mem_cons_self) with e | e
      · exact e
      · rcases List.mem_cons.mp ((h b).mpr List.mem_cons_self) with e2 | e2
        · exact e2.symm
        · have := hb a e
          have := ha b e2
          omega
    subst e
    have : r = s := sorted_ext hr hs fun x => by
      constructor
      · intro hx
        rcases List.mem_cons.mp ((h x).mp (List.mem_cons_of_mem _ hx)) with e | e
        · have := ha x hx
          omega
        · exact e
      · intro hx
        rcases List.mem_cons.mp ((h x).mpr (List.mem_cons_of_mem _ hx)) with e | e
        · have := hb x hx
          omega
        · exact e
    rw [this]
theorem norm_ext {l l' : List Int} (h : ∀ x, 0 ≤ x → x < 48 → (x ∈ l ↔ x ∈ l')) : norm l = norm l' :=
  sorted_ext (norm_sorted l) (norm_sorted l') fun x => by
    rw [mem_norm, mem_norm]
    constructor
    · rintro ⟨a, b⟩; exact ⟨a, (h x a.1 a.2).mp b⟩
    · rintro ⟨a, b⟩; exact ⟨a, (h x a.1 a.2).mpr b⟩
theorem norm_of_sorted {l l' : List Int} (h : l.Pairwise (· < ·)) (hm : ∀ x, x ∈ l ↔ x ∈ l') (hr : ∀ x ∈ l', 0 ≤ x ∧ x < 48) : l = norm l' :=
  sorted_ext h (norm_sorted l') fun x => by
    rw [hm, mem_norm]
    exact ⟨fun a => ⟨hr x a, a⟩, fun a => a.2⟩
theorem norm_eq_iff {l l' : List Int} : norm l = norm l' ↔ ∀ x, 0 ≤ x → x < 48 → (x ∈ l ↔ x ∈ l') := by
  constructor
  · intro e x h0 h1
    have : x ∈ norm l ↔ x ∈ norm l' := by rw [e]
    rw [mem_norm, mem_norm] at this
    exact ⟨fun a => (this.mp ⟨⟨h0, h1⟩, a⟩).2, fun a => (this.mpr ⟨⟨h0, h1⟩, a⟩).2⟩
  · exact norm_ext
theorem norm_filter (l : List Int) (p : Int → Bool) : (norm l).filter p = norm (l.filter p) := by
  refine sorted_ext ((norm_sorted l).sublist List.filter_sublist) (norm_sorted _) fun x => ?_
  rw [List.mem_filter, mem_norm, mem_norm, List.mem_filter]
  constructor
  · rintro ⟨⟨a, b⟩, c⟩; exact ⟨a, b, c⟩
  · rintro ⟨a, b, c⟩; exact ⟨⟨a, b⟩, c⟩
theorem norm_norm (l : List Int) : norm (norm l) = norm l := norm_ext fun x h0 h1 => by
  rw [mem_norm]
  exact ⟨fun a => a.2, fun a => ⟨⟨h0, h1⟩, a⟩⟩
/-! ## values -/
theorem flat_ints (ns : List Int) : (ns.map V.int).all flatV = true := by
  rw [List.all_eq_true]
  intro x hx
  obtain ⟨i, _, rfl⟩ := List.mem_map.mp hx
  rfl
theorem eqV_int (i j : Int) : eqV (.int i) (.int j) = decide (i = j) := by
  show (i == j) = _
  rw [Bool.eq_iff_iff]
  simp
theorem in_ints (x : Int) (ns : List Int) : inV (.int x) (ns.map V.int) = decide (x ∈ ns) := by
  unfold inV
  rw [Bool.eq_iff_iff, List.any_eq_true, decide_eq_true_eq]
  constructor
  · rintro ⟨y, hy, e⟩
    obtain ⟨i, hi, rfl⟩ := List.mem_map.mp hy
    rw [eqV_int, decide_eq_true_eq] at e
    exact e ▸ hi
  · intro h
    exact ⟨.int x, List.mem_map.mpr ⟨x, h, rfl⟩, by rw [eqV_int, decide_eq_true_eq]⟩
theorem dpAll_ints {K : PySem.W.Frag} {H : Hp} : ∀ ns : List Int, DpAll K H (ns.map V.int) (ns.map PyData.int)
  | [] => .nil
  | n :: r => .cons (.int n) (dpAll_ints r)
theorem canLay_ints : ∀ ns : List Int, PyData.canLayAll0 (ns.map PyData.int) = true
  | [] => by rw [List.map_nil, PyData.canLayAll0]
  | n :: r => by
    rw [List.map_cons, PyData.canLayAll0, canLay_ints r]
    rfl
theorem depth_ints : ∀ ns : List Int, PyData.depthAll (ns.map PyData.int) = 0
  | [] => by rw [List.map_nil, PyData.depthAll]
  | n :: r => by
    rw [List.map_cons, PyData.depthAll, depth_ints r]
    rfl
theorem shT (ns : List Int) : SeqAt.shaped (.tuple (ns.map PyData.int)) = true := by
  simp [SeqAt.shaped, PyData.canLay0, canLay_ints, PyData.depth, depth_ints]
theorem shL (ns : List Int) : SeqAt.shaped (.list (ns.map PyData.int)) = true := by
  simp [SeqAt.shaped, PyData.canLay0, canLay_ints, PyData.depth, depth_ints]
theorem evT (ns ms : List Int) : PyData.eqv (.tuple (ns.map PyData.int)) (.tuple (ms.map PyData.int)) = decide (ns = ms) := by
  rw [PyData.eqv, PySem.W.ked_eqvAll]
theorem evL (ns ms : List Int) : PyData.eqv (.list (ns.map PyData.int)) (.list (ms.map PyData.int)) = decide (ns = ms) := by
  rw [PyData.eqv, PySem.W.ked_eqvAll]
theorem eqD_tup {K : PySem.W.Frag} {H : Hp} {a b : Addr} {ns ms : List Int} {Q : VK} (h1 : SqT K H a (ns.map V.int)) (h2 : SqT K H b (ms.map V.int)) (q : Q (.bl (decide (ns = ms))) H) : rEqD K (.ref a) (.ref b) H Q :=
  ⟨_, _, .tup h1 (dpAll_ints ns), .tup h2 (dpAll_ints ms), shT ns, shT ms, by rw [evT]; exact q⟩
theorem neD_tup {K : PySem.W.Frag} {H : Hp} {a b : Addr} {ns ms : List Int} {Q : VK} (h1 : SqT K H a (ns.map V.int)) (h2 : SqT K H b (ms.map V.int)) (q : Q (.bl (!decide (ns = ms))) H) : rNeD K (.ref a) (.ref b) H Q :=
  ⟨_, _, .tup h1 (dpAll_ints ns), .tup h2 (dpAll_ints ms), shT ns, shT ms, by rw [evT]; exact q⟩
theorem eqD_lst {K : PySem.W.Frag} {H : Hp} {a b : Addr} {ns ms : List Int} {Q : VK} (h1 : SqL K H a (ns.map V.int)) (h2 : SqL K H b (ms.map V.int)) (q : Q (.bl (decide (ns = ms))) H) : rEqD K (.ref a) (.ref b) H Q :=
  ⟨_, _, .lst h1 (dpAll_ints ns), .lst h2 (dpAll_ints ms), shL ns, shL ms, by rw [evL]; exact q⟩
theorem neD_lst {K : PySem.W.Frag} {H : Hp} {a b : Addr} {ns ms : List Int} {Q : VK} (h1 : SqL K H a (ns.map V.int)) (h2 : SqL K H b (ms.map V.int)) (q : Q (.bl (!decide (ns = ms))) H) : rNeD K (.ref a) (.ref b) H Q :=
  ⟨_, _, .lst h1 (dpAll_ints ns), .lst h2 (dpAll_ints ms), shL ns, shL ms, by rw [evL]; exact q⟩
/-! ## pupils -/
/-- at a a pupil whose rights are the ascending list of l -/
def PupAt (C : Addr) (H : Hp) (a : Addr) (l : List Int) : Prop := ∃ dx t, H a = some (.ins C dx [("rights", .ref t)]) ∧ H t = some (.tup ((norm l).map V.int))
theorem PupAt.same {C a : Addr} {H H' : Hp} {l : List Int} (e : Same H H') (h : PupAt C H a l) : PupAt C H' a l := by
  obtain ⟨dx, t, h1, h2⟩ := h
  exact ⟨dx, t, e _ _ h1, e _ _ h2⟩
theorem PupAt.gd {C a : Addr} {H H' : Hp} {l : List Int} (e : Gd H H') (h : PupAt C H a l) : PupAt C H' a l := by
  obtain ⟨dx, t, h1, h2⟩ := h
  exact ⟨dx, t, e.1 _ _ (np_ins _ _ _) h1, e.1 _ _ (np_tup _) h2⟩
theorem PupAt.eq {C a : Addr} {H : Hp} {l l' : List Int} (h : PupAt C H a l) (e : norm l = norm l') : PupAt C H a l' := by
  obtain ⟨dx, t, h1, h2⟩ := h
  exact ⟨dx, t, h1, by rw [← e]; exact h2⟩
/-- questions: each from 0 to 47 -/
def Qn (l : List Int) : Prop := ∀ k ∈ l, 0 ≤ k ∧ k < 48
def SqA (K : PySem.W.Frag) (H : Hp) (q : Addr) (xs : List V) : Prop := SqL K H q xs ∨ SqT K H q xs
def spInit (K : PySem.W.Frag) (C : Addr) : Sp := fun vs H Q _ => ∃ (x dx q : Addr) (l : List Int), vs = [.ref x, .ref q] ∧ H x = some (.ins C dx []) ∧ SqA K H q (l.map V.int) ∧ l.length ≤ 500 ∧ Qn l ∧
  ∀ H' t, H' x = some (.ins C dx [("rights", .ref t)]) → H' t = some (.tup ((norm l).map V.int)) → (∀ b o, b ≠ x → H b = some o → H' b = some o) → Q .non H'
theorem SqA.same {K : PySem.W.Frag} {H H' : Hp} {q : Addr} {xs : List V} (e : Same H H') (h : SqA K H q xs) : SqA K H' q xs := h.elim (fun h => .inl (e.seq h)) fun h => .inr (e.seqT h)
theorem pup_make {K : PySem.W.Frag} {C q : Addr} {H : Hp} {l : List Int} {R : Addr → Hp → Prop} {E : XK} (hq : SqA K H q (l.map V.int)) (hl : l.length ≤ 500) (hn : Qn l) (k : ∀ x H', H x = none → Same H H' → PupAt C H' x l → R x H') :
    ∀ x dx, H x = none → H dx = none → dx ≠ x → spInit K C (.ref x :: ([.ref q] ++ [])) (upd (upd H dx (.own x)) x (.ins C dx [])) (fun v H2 => v = .non ∧ R x H2) E := by
  intro x dx nx ndx ne
  have s0 : Same H (upd (upd H dx (.own x)) x (.ins C dx [])) := (same_upd ndx).mut nx
  refine ⟨x, dx, q, l, rfl, upd_same, hq.same s0, hl, hn, fun H' t h1 h2 h3 => ⟨rfl, k x H' nx (fun b o e => ?_) ⟨dx, t, h1, h2⟩⟩⟩
  exact h3 b o (ne_of_none e nx) (s0 b o e)
def spBin (C : Addr) (f : List Int → List Int → List Int) : Sp := fun vs H Q _ => ∃ (a b : Addr) (p q : List Int), vs = [.ref a, .ref b] ∧ PupAt C H a p ∧ PupAt C H b q ∧ ∀ x H', H x = none → Same H H' → PupAt C H' x (f p q) → Q (.ref x) H'
def spRel (C : Addr) (f : List Int → List Int → Bool) : Sp := fun vs H Q _ => ∃ (a b : Addr) (p q : List Int), vs = [.ref a, .ref b] ∧ PupAt C H a p ∧ PupAt C H b q ∧ ∀ H', Same H H' → Q (.bl (f (norm p) (norm q))) H'
def fOr (p q : List Int) : List Int := p ++ q
def fAnd (p q : List Int) : List Int := p.filter fun x => decide (x ∈ q)
def fSub (p q : List Int) : List Int := p.filter fun x => !decide (x ∈ q)
def fLe (p q : List Int) : Bool := p.all fun x => decide (x ∈ q)
def fEq (p q : List Int) : Bool := decide (p = q)
theorem norm_or (p q : List Int) : norm (norm p ++ norm q) = norm (p ++ q) := norm_ext fun x h0 h1 => by
  simp only [List.mem_append, mem_norm]
  exact ⟨fun h => h.elim (fun a => .inl a.2) fun a => .inr a.2, fun h => h.elim (fun a => .inl ⟨⟨h0, h1⟩, a⟩) fun a => .inr ⟨⟨h0, h1⟩, a⟩⟩
theorem qn_norm (l : List Int) : Qn (norm l) := fun k hk => (mem_norm.mp hk).1
theorem qn_append {l m : List Int} (h1 : Qn l) (h2 : Qn m) : Qn (l ++ m) := fun k hk => (List.mem_append.mp hk).elim (h1 k) (h2 k)
theorem qn_filter {l : List Int} {p : Int → Bool} (h1 : Qn l) : Qn (l.filter p) := fun k hk => h1 k (List.mem_filter.mp hk).1
/-- a comprehension over a list that keeps some of its ints as they are -/
theorem filter_take_succ {l : List Int} {p : Int → Bool} {i : Nat} {x : Int} (h : l[i]? = some x) : (l.take (i + 1)).filter p = (l.take i).filter p ++ (if p x = true then [x] else []) := by
  rw [List.take_add_one, h, List.filter_append]
  show _ ++ List.filter p [x] = _
  rw [List.filter_cons]
  rfl
theorem get_map_int {l : List Int} {i : Nat} {v : V} (h : (l.map V.int)[i]? = some v) : ∃ x, l[i]? = some x ∧ v = .int x := by
  rw [List.getElem?_map] at h
  cases e : l[i]? with
  | none => rw [e] at h; cases h
  | some x => rw [e] at h; exact ⟨x, rfl, (Option.some.inj h).symm⟩
theorem catA_k {K : PySem.W.Frag} {H : Hp} {a b : Addr} {xs ys : List V} {Q : VK} (h1 : SqT K H a xs) (h2 : SqT K H b ys) (hl : xs.length + ys.length ≤ sizeLine) (k : ∀ p H', Same H H' → SqT K H' p (xs ++ ys) → Q (.ref p) H') : rCatA K (.ref a) (.ref b) H Q := by
  refine ⟨a, b, xs, ys, rfl, rfl, h1, h2, hl, fun e => ?_, fun _ e => ?_, fun _ _ p hp => k p _ (same_upd hp) (.inl (.inl upd_same))⟩
  · subst e
    exact k b H (Same.refl H) h2
  · subst e
    exact k a H (Same.refl H) (by rw [List.append_nil]; exact h1)
section
variable {K : PySem.W.Frag} {a : Addr} {tt : TT} {te : TE} {vs : List Nat} {σ : St} {H1 : Hp} {D : Addr} {Qd : Hp → Prop} {j : Nat}
/-- one turn of a comprehension that keeps some ints as they are -/
theorem filt_turn {ns : List Int} {p : Int → Bool} {i : Nat} {x : Int} {H : Hp} (nD : H1 D = none) (hlen : ns.length < 100000) (hx : ns[i]? = some x)
    (ht : ∀ H', Same H1 H' → ∀ R : Bool → Hp → Prop, R (p x) H' → tt ((wipe σ vs).set j (some (.int x))) H' R) (he : ∀ H', Same H1 H' → ∀ R : VK, R (.int x) H' → te ((wipe σ vs).set j (some (.int x))) H' R)
    (h : Same H1 H ∧ H D = some (.lst (((ns.take i).filter p).map V.int))) :
    tt ((wipe σ vs).set j (some (.int x))) H fun b H3 => if b = true then te ((wipe σ vs).set j (some (.int x))) H3 fun y H4 => ∃ acc, H4 D = some (.lst acc) ∧ acc.length < sizeLine ∧ (Same H1 (upd H4 D (.lst (acc ++ [y]))) ∧ upd H4 D (.lst (acc ++ [y])) D = some (.lst (((ns.take (i + 1)).filter p).map V.int)))
      else (Same H1 H3 ∧ H3 D = some (.lst (((ns.take (i + 1)).filter p).map V.int))) := by
  obtain ⟨e, hD⟩ := h
  refine ht H e _ ?_
  have ef := filter_take_succ (p := p) hx
  cases hp : p x with
  | true =>
    rw [hp] at ef
    refine iteT (he H e _ ⟨_, hD, ?_, e.mut nD, ?_⟩)
    · rw [List.length_map]
      have h1 := List.length_filter_le p (ns.take i)
      have h2 := List.length_take_le i ns
      have h3 : (ns.take i).length ≤ ns.length := by rw [List.length_take]; exact Nat.min_le_right _ _
      rw [sizeLine_eq]; omega
    · rw [upd_same, ef, List.map_append]
      rfl
  | false =>
    rw [hp] at ef
    refine iteF ⟨e, ?_⟩
    rw [ef, if_neg (by decide), List.append_nil]
    exact hD
def lcT_filter {ns : List Int} (p : Int → Bool) (hs : SqT K H1 a (ns.map V.int)) (nD : H1 D = none) (hlen : ns.length < 100000) (hw : ∀ x, wipe ((wipe σ vs).set j (some x)) vs = wipe σ vs)
    (ht : ∀ x ∈ ns, ∀ H', Same H1 H' → ∀ R : Bool → Hp → Prop, R (p x) H' → tt ((wipe σ vs).set j (some (.int x))) H' R) (he : ∀ x ∈ ns, ∀ H', Same H1 H' → ∀ R : VK, R (.int x) H' → te ((wipe σ vs).set j (some (.int x))) H' R)
    (k : ∀ H', Same H1 H' → H' D = some (.lst ((ns.filter p).map V.int)) → Qd H') := 
  lc_tup (K := K) (a := a) (xs := ns.map V.int) (g := gName j) (tt := tt) (te := te) (vs := vs) (σ := σ) (H1 := H1) (D := D) (Qd := Qd) (fun i H => Same H1 H ∧ H D = some (.lst (((ns.take i).filter p).map V.int))) ⟨same_upd nD, upd_same⟩ (fun i H _ h => h.1.seqT hs)
    (fun i y H hi h => by
      obtain ⟨x, hx, rfl⟩ := get_map_int hi
      have hm := List.mem_of_getElem? hx
      exact ⟨hw _, filt_turn nD hlen hx (ht x hm) (he x hm) h⟩)
    (fun H h => k H h.1 (by have := h.2; rw [List.length_map, List.take_length] at this; exact this))
def lcL_filter {ns : List Int} (p : Int → Bool) (hs : SqL K H1 a (ns.map V.int)) (nD : H1 D = none) (hlen : ns.length < 100000) (hw : ∀ x, wipe ((wipe σ vs).set j (some x)) vs = wipe σ vs)
    (ht : ∀ x ∈ ns, ∀ H', Same H1 H' → ∀ R : Bool → Hp → Prop, R (p x) H' → tt ((wipe σ vs).set j (some (.int x))) H' R) (he : ∀ x ∈ ns, ∀ H', Same H1 H' → ∀ R : VK, R (.int x) H' → te ((wipe σ vs).set j (some (.int x))) H' R)
    (k : ∀ H', Same H1 H' → H' D = some (.lst ((ns.filter p).map V.int)) → Qd H') := 
  lc_list (K := K) (a := a) (xs := ns.map V.int) (g := gName j) (tt := tt) (te := te) (vs := vs) (σ := σ) (H1 := H1) (D := D) (Qd := Qd) (fun i H => Same H1 H ∧ H D = some (.lst (((ns.take i).filter p).map V.int))) ⟨same_upd nD, upd_same⟩ (fun i H _ h => h.1.seq hs)
    (fun i y H hi h => by
      obtain ⟨x, hx, rfl⟩ := get_map_int hi
      have hm := List.mem_of_getElem? hx
      exact ⟨hw _, filt_turn nD hlen hx (ht x hm) (he x hm) h⟩)
    (fun H h => k H h.1 (by have := h.2; rw [List.length_map, List.take_length] at this; exact this))
def rgI (n : Nat) : List Int := (List.range n).map fun i => ((i : Nat) : Int)
theorem rgI_get {n i : Nat} (h : i < n) : (rgI n)[i]? = some (i : Int) := by
  unfold rgI
  rw [List.getElem?_map, List.getElem?_range h]
  rfl
theorem rgI_length (n : Nat) : (rgI n).length = n := by unfold rgI; rw [List.length_map, List.length_range]
theorem mem_rgI {n : Nat} {x : Int} : x ∈ rgI n ↔ 0 ≤ x ∧ x < n := by
  unfold rgI
  rw [List.mem_map]
  constructor
  · rintro ⟨i, h, rfl⟩
    have := List.mem_range.mp h
    omega
  · rintro ⟨h0, h1⟩
    exact ⟨x.toNat, List.mem_range.mpr (by omega), by omega⟩
def lcR_filter {n : Nat} (p : Int → Bool) (nD : H1 D = none) (hlen : n < 100000) (hw : ∀ x, wipe ((wipe σ vs).set j (some x)) vs = wipe σ vs)
    (ht : ∀ x ∈ rgI n, ∀ H', Same H1 H' → ∀ R : Bool → Hp → Prop, R (p x) H' → tt ((wipe σ vs).set j (some (.int x))) H' R) (he : ∀ x ∈ rgI n, ∀ H', Same H1 H' → ∀ R : VK, R (.int x) H' → te ((wipe σ vs).set j (some (.int x))) H' R)
    (k : ∀ H', Same H1 H' → H' D = some (.lst (((rgI n).filter p).map V.int)) → Qd H') := 
  lc_range (lo := 0) (n := n) (g := gName j) (tt := tt) (te := te) (vs := vs) (σ := σ) (H1 := H1) (D := D) (Qd := Qd) (fun i H => Same H1 H ∧ H D = some (.lst ((((rgI n).take i).filter p).map V.int))) ⟨same_upd nD, upd_same⟩
    (fun i H hi h => by
      have hx := rgI_get hi
      have hm := List.mem_of_getElem? hx
      have e0 : (0 : Int) + ((i : Nat) : Int) = (i : Int) := Int.zero_add _
      rw [e0]
      exact ⟨hw _, filt_turn nD (by rw [rgI_length]; exact hlen) hx (ht _ hm) (he _ hm) h⟩)
    (fun H h => k H h.1 (by have := h.2; rw [List.take_of_length_le (by rw [rgI_length]; exact Nat.le_refl n)] at this; exact this))
theorem in_k {K : PySem.W.Frag} {neg : Bool} {x : Int} {q : Addr} {ns : List Int} {H : Hp} {Q : VK} (h : SqL K H q (ns.map V.int) ∨ SqT K H q (ns.map V.int)) (k : Q (.bl (if neg then !decide (x ∈ ns) else decide (x ∈ ns))) H) : rIn K neg (.int x) (.ref q) H Q :=
  ⟨q, _, rfl, h, rfl, flat_ints ns, by rw [in_ints]; exact k⟩
theorem tup_of {K : PySem.W.Frag} {H : Hp} {q : Addr} {xs : List V} (h : H q = some (.tup xs)) : SqT K H q xs := .inl (.inl h)
theorem lst_of {K : PySem.W.Frag} {H : Hp} {q : Addr} {xs : List V} (h : H q = some (.lst xs)) : SqL K H q xs := .inl (.inl h)
end
def Draws (K : PySem.W.Frag) (p : Addr) (c : Nat) (H H' : Hp) : Prop := Gd H H' ∧ PoolOk K p c H'
/-- _law_some: a new list of fewer than m questions -/
def spSome (K : PySem.W.Frag) : Sp := fun vs H Q _ => ∃ (p : Addr) (c : Nat) (m : Int), vs = [.ref p, .int m] ∧ PoolOk K p c H ∧ c + 200 < LIM ∧ 0 < m ∧ m ≤ 100 ∧
  ∀ H' D l, H D = none → Gd H H' → PoolOk K p (c + 200) H' → H' D = some (.lst (l.map V.int)) → Qn l → (l.length : Int) < m → Q (.ref D) H'
/-- _law_set: the ascending list -/
def spSet (K : PySem.W.Frag) : Sp := fun vs H Q _ => ∃ (q : Addr) (l : List Int), vs = [.ref q] ∧ SqL K H q (l.map V.int) ∧
  ∀ H' D, H D = none → Same H H' → H' D = some (.lst ((norm l).map V.int)) → Q (.ref D) H'
theorem ask_rg : ask48 = rgI 48 := rfl
theorem norm_rg (l : List Int) : (rgI 48).filter (fun x => decide (x ∈ l)) = norm l := rfl
theorem own_bin {C x y : Addr} {f : List Int → List Int → List Int} {l m : List Int} {H : Hp} {Q : VK} {E : XK} (px : PupAt C H x l) (py : PupAt C H y m) (k : ∀ z H', H z = none → Same H H' → PupAt C H' z (f l m) → Q (.ref z) H') :
    rOwn C (spBin C f) E (.ref x) (.ref y) H Q := by
  obtain ⟨dx, t, hx, _⟩ := id px
  obtain ⟨dy, u, hy, _⟩ := id py
  exact ⟨x, y, dx, dy, _, _, rfl, rfl, hx, hy, x, y, l, m, rfl, px, py, k⟩
theorem own_rel {C x y : Addr} {f : List Int → List Int → Bool} {l m : List Int} {H : Hp} {Q : VK} {E : XK} (px : PupAt C H x l) (py : PupAt C H y m) (k : ∀ H', Same H H' → Q (.bl (f (norm l) (norm m))) H') :
    rOwn C (spRel C f) E (.ref x) (.ref y) H Q := by
  obtain ⟨dx, t, hx, _⟩ := id px
  obtain ⟨dy, u, hy, _⟩ := id py
  exact ⟨x, y, dx, dy, _, _, rfl, rfl, hx, hy, x, y, l, m, rfl, px, py, k⟩
theorem fld_rights {K : PySem.W.Frag} {C x : Addr} {l : List Int} {H : Hp} {Q : VK} (px : PupAt C H x l) (c : Cls K C) (n : NoAttr K C "rights") (k : ∀ t, H t = some (.tup ((norm l).map V.int)) → Q (.ref t) H) :
    ∃ a C dx fs v, V.ref x = .ref a ∧ H a = some (.ins C dx fs) ∧ Cls K C ∧ NoAttr K C "rights" ∧ fs.lookup ("rights" : Str) = some v ∧ Q v H := by
  obtain ⟨dx, t, hx, ht⟩ := px
  exact ⟨x, C, dx, _, .ref t, rfl, hx, c, n, rfl, k t ht⟩
/-! the pure facts -/
theorem le_within {l m : List Int} (h1 : Qn l) : fLe (norm l) (norm m) = decide (l.filter (fun x => !decide (x ∈ m)) = []) := by
  rw [Bool.eq_iff_iff]
  unfold fLe
  rw [List.all_eq_true, decide_eq_true_eq, List.filter_eq_nil_iff]
  constructor
  · intro h x hx
    have := h x (mem_norm.mpr ⟨h1 x hx, hx⟩)
    rw [decide_eq_true_eq, mem_norm] at this
    simp [this.2]
  · intro h x hx
    obtain ⟨a, b⟩ := mem_norm.mp hx
    have := h x b
    rw [decide_eq_true_eq, mem_norm]
    exact ⟨a, by simpa using this⟩
theorem or_within {l m : List Int} (h1 : Qn l) : fEq (norm (fOr l m)) (norm m) = decide (l.filter (fun x => !decide (x ∈ m)) = []) := by
  rw [Bool.eq_iff_iff]
  unfold fEq fOr
  rw [decide_eq_true_eq, decide_eq_true_eq, List.filter_eq_nil_iff, norm_eq_iff]
  constructor
  · intro h x hx
    have := (h x (h1 x hx).1 (h1 x hx).2).mp (List.mem_append.mpr (.inl hx))
    simp [this]
  · intro h x h0 h1
    rw [List.mem_append]
    exact ⟨fun a => a.elim (fun b => by simpa using h x b) id, .inr⟩
theorem and_within {l m : List Int} (h1 : Qn l) : fEq (norm (fAnd l m)) (norm l) = decide (l.filter (fun x => !decide (x ∈ m)) = []) := by
  rw [Bool.eq_iff_iff]
  unfold fEq fAnd
  rw [decide_eq_true_eq, decide_eq_true_eq, List.filter_eq_nil_iff, norm_eq_iff]
  constructor
  · intro h x hx
    have := (h x (h1 x hx).1 (h1 x hx).2).mpr hx
    rw [List.mem_filter] at this
    simp [of_decide_eq_true this.2]
  · intro h x h0 h1
    rw [List.mem_filter]
    exact ⟨fun a => a.1, fun a => ⟨a, by simpa using h x a⟩⟩
theorem le_or (l m : List Int) : fLe (norm l) (norm (fOr l m)) = true := by
  unfold fLe fOr
  rw [List.all_eq_true]
  intro x hx
  obtain ⟨a, b⟩ := mem_norm.mp hx
  exact decide_eq_true (mem_norm.mpr ⟨a, List.mem_append.mpr (.inl b)⟩)
theorem le_and (l m : List Int) : fLe (norm (fAnd l m)) (norm m) = true := by
  unfold fLe fAnd
  rw [List.all_eq_true]
  intro x hx
  obtain ⟨a, b⟩ := mem_norm.mp hx
  exact decide_eq_true (mem_norm.mpr ⟨a, of_decide_eq_true (List.mem_filter.mp b).2⟩)
theorem sub_and (l m : List Int) : norm (fAnd (fSub l m) m) = [] := by
  unfold norm fAnd fSub
  rw [List.filter_eq_nil_iff]
  intro x _ h
  have h := of_decide_eq_true h
  rw [List.mem_filter, List.mem_filter] at h
  obtain ⟨⟨_, h2⟩, h3⟩ := h
  have := of_decide_eq_true h3
  simp [this] at h2
theorem sub_or_and (l m : List Int) : norm (fOr (fSub l m) (fAnd l m)) = norm l := norm_ext fun x h0 h1 => by
  unfold fOr fSub fAnd
  rw [List.mem_append, List.mem_filter, List.mem_filter]
  by_cases h : x ∈ m <;> simp [h]
theorem and_set (l m : List Int) : norm (fAnd l m) = (norm l).filter fun x => decide (x ∈ m) := by
  unfold fAnd
  rw [norm_filter]
theorem sub_set (l m : List Int) : norm (fSub l m) = (norm l).filter fun x => !decide (x ∈ m) := by
  unfold fSub
  rw [norm_filter]
theorem ne_false {l m : List Int} (e : l = m) : (!decide (l = m)) = false := by simp [e]
def spPair (K : PySem.W.Frag) : Sp := fun vs H Q _ => ∃ (o t : Addr) (l m : List Int), vs = [.ref o, .ref t] ∧ H o = some (.lst (l.map V.int)) ∧ H t = some (.lst (m.map V.int)) ∧ Qn l ∧ Qn m ∧ l.length ≤ 200 ∧ m.length ≤ 200 ∧ ∀ H', Same H H' → Q (.bl true) H'
theorem kit_bool {K : PySem.W.Frag} : PySem.W.kitOne K (.type "bool") (.type "bool") = some true := kit_ty (by decide +kernel)
theorem dec_self (b : Bool) : (!decide (V.bl b = V.bl b)) = false := by simp
theorem rg_ints (n : Nat) : rgV 0 (n : Int) = (rgI n).map V.int := by
  unfold rgV rgI
  rw [List.map_map, Int.sub_zero, Int.toNat_natCast]
  refine List.map_congr_left fun i _ => ?_
  show V.int (0 + (i : Int)) = V.int (i : Int)
  rw [Int.zero_add]
/-- a list of questions at r -/
def QsAt (H : Hp) (r : Addr) (l : List Int) : Prop := H r = some (.lst (l.map V.int)) ∧ Qn l ∧ l.length ≤ 200
theorem QsAt.gd {H H' : Hp} {r : Addr} {l : List Int} (e : Gd H H') (h : QsAt H r l) : QsAt H' r l := ⟨e.1 _ _ (np_ints l) h.1, h.2⟩
theorem QsAt.same {H H' : Hp} {r : Addr} {l : List Int} (e : Same H H') (h : QsAt H r l) : QsAt H' r l := h.gd e.gd
theorem two_at {x y : V} {r : Int} (h0 : 0 ≤ r) (h1 : r < 2) : atI [x, y] r = some (if r = 0 then x else y) := by
  rcases (show r = 0 ∨ r = 1 by omega) with e | e
  · subst e; exact atI0
  · subst e; exact atI1
/-! ## a pupil beside the ascending list of its questions -/
theorem np_refs (xs : List Addr) : ¬ isPool (.lst (xs.map V.ref)) := by
  rintro ⟨a, c, i, b, s, h⟩
  cases xs with
  | nil => cases h
  | cons x r =>
    injection h with h
    injection h with _ h
    cases r with
    | nil => cases h
    | cons y r => injection h with h _; cases h
def Pr (C : Addr) (H : Hp) (x y : Addr) : Prop := ∃ l, PupAt C H x l ∧ H y = some (.lst ((norm l).map V.int))
theorem Pr.same {C x y : Addr} {H H' : Hp} (e : Same H H') (h : Pr C H x y) : Pr C H' x y := let ⟨l, a, b⟩ := h; ⟨l, a.same e, e _ _ b⟩
theorem Pr.gd {C x y : Addr} {H H' : Hp} (e : Gd H H') (h : Pr C H x y) : Pr C H' x y := let ⟨l, a, b⟩ := h; ⟨l, a.gd e, e.1 _ _ (np_ints _) b⟩
theorem PupAt.mut {C x q : Addr} {H : Hp} {l : List Int} {zs : List V} {o : HO} (hq : H q = some (.lst zs)) (h : PupAt C H x l) : PupAt C (upd H q o) x l := by
  obtain ⟨dx, t, h1, h2⟩ := h
  exact ⟨dx, t, by rw [upd_ne (ne_of h1 hq (by intro z; cases z))]; exact h1, by rw [upd_ne (ne_of h2 hq (by intro z; cases z))]; exact h2⟩
theorem Pr.mut {C x y q : Addr} {H : Hp} {zs : List V} {o : HO} (hq : H q = some (.lst zs)) (ne : y ≠ q) (h : Pr C H x y) : Pr C (upd H q o) x y := let ⟨l, a, b⟩ := h; ⟨l, a.mut hq, by rw [upd_ne ne]; exact b⟩
theorem Pr.ne {C x y q z : Addr} {H : Hp} {zs : List V} (h : Pr C H x y) (hq : H q = some (.lst (.ref z :: zs))) : y ≠ q := by
  obtain ⟨l, a, b⟩ := h
  refine ne_of b hq fun e => ?_
  injection e with e
  cases hn : norm l with
  | nil => rw [hn] at e; cases e
  | cons u r => rw [hn] at e; injection e with e _; cases e
def Tri (C : Addr) (H : Hp) (PL SL : Addr) (xs ys : List Addr) : Prop := H PL = some (.lst (xs.map V.ref)) ∧ H SL = some (.lst (ys.map V.ref)) ∧ xs.length = 3 ∧ ys.length = 3 ∧ ∀ (k : Nat) x y, xs[k]? = some x → ys[k]? = some y → Pr C H x y
theorem Tri.gd {C PL SL : Addr} {H H' : Hp} {xs ys : List Addr} (e : Gd H H') (h : Tri C H PL SL xs ys) : Tri C H' PL SL xs ys :=
  ⟨e.1 _ _ (np_refs _) h.1, e.1 _ _ (np_refs _) h.2.1, h.2.2.1, h.2.2.2.1, fun k x y a b => (h.2.2.2.2 k x y a b).gd e⟩
theorem at_ref {xs : List Addr} {r : Int} (h0 : 0 ≤ r) (h1 : r < (xs.length : Int)) : ∃ (j : Nat) (x : Addr), xs[j]? = some x ∧ r = (j : Int) ∧ j < xs.length ∧ atI (xs.map V.ref) r = some (.ref x) := by
  obtain ⟨j, rfl⟩ : ∃ j : Nat, r = (j : Int) := ⟨r.toNat, by omega⟩
  have hj : j < xs.length := by omega
  refine ⟨j, xs[j], List.getElem?_eq_getElem hj, rfl, hj, atI_nat ?_⟩
  rw [List.getElem?_map, List.getElem?_eq_getElem hj]
  rfl
theorem get3 {xs : List Addr} {j : Nat} (h : xs.length = 3) (hj : j < 3) : ∃ x, xs[j]? = some x := ⟨xs[j]'(by omega), List.getElem?_eq_getElem _⟩
def spHas (C : Addr) : Sp := fun vs H Q _ => ∃ (a : Addr) (p : List Int) (z : Int), vs = [.ref a, .int z] ∧ PupAt C H a p ∧ Q (.bl (decide (z ∈ norm p))) H
def spLen (C : Addr) : Sp := fun vs H Q _ => ∃ (a : Addr) (p : List Int), vs = [.ref a] ∧ PupAt C H a p ∧ Q (.int ((norm p).length : Nat)) H
def spAdded (C : Addr) : Sp := fun vs H Q _ => ∃ (a : Addr) (p : List Int) (z : Int), vs = [.ref a, .int z] ∧ PupAt C H a p ∧ 0 ≤ z ∧ z < 48 ∧ ∀ x H', H x = none → Same H H' → PupAt C H' x (p ++ [z]) → Q (.ref x) H'
def spAfter (K : PySem.W.Frag) (C : Addr) : Sp := fun vs H Q _ => ∃ (p PL SL : Addr) (c : Nat) (xs ys : List Addr), vs = [.ref p, .ref PL, .ref SL] ∧ PoolOk K p c H ∧ c + 100 < LIM ∧ Tri C H PL SL xs ys ∧
  ∀ H' t x y, Gd H H' → PoolOk K p (c + 100) H' → H' t = some (.tup [.ref x, .ref y]) → H y = none → Pr C H' x y → Q (.ref t) H'
def spRight (C : Addr) : Sp := fun vs H Q _ => ∃ (PL SL : Addr) (xs ys : List Addr), vs = [.ref PL, .ref SL] ∧ Tri C H PL SL xs ys ∧ ∀ H', Same H H' → Q (.bl true) H'
theorem own_has {C x : Addr} {neg : Bool} {z : Int} {p : List Int} {H : Hp} {Q : VK} {E : XK} (px : PupAt C H x p) (k : Q (.bl (if neg then !decide (z ∈ norm p) else decide (z ∈ norm p))) H) : rOwnIn C (spHas C) E neg (.int z) (.ref x) H Q := by
  obtain ⟨dx, t, hx, _⟩ := id px
  exact ⟨x, dx, _, rfl, hx, x, p, z, rfl, px, _, rfl, k⟩
theorem own_len {C x : Addr} {p : List Int} {H : Hp} {Q : VK} {E : XK} (px : PupAt C H x p) (k : Q (.int ((norm p).length : Nat)) H) : rOwnLen C (spLen C) E [.ref x] H Q := by
  obtain ⟨dx, t, hx, _⟩ := id px
  have := norm_len p
  exact ⟨x, dx, _, rfl, hx, x, p, rfl, px, _, rfl, by omega, by omega, k⟩
theorem le_listW (l m : List Int) : fLe (norm l) (norm m) = decide ((norm l).filter (fun x => !decide (x ∈ norm m)) = []) := by
  have := le_within (m := norm m) (qn_norm l)
  rw [norm_norm, norm_norm] at this
  exact this
theorem dpAll_bls {K : PySem.W.Frag} {H : Hp} : ∀ bs : List Bool, DpAll K H (bs.map V.bl) (bs.map PyData.bool)
  | [] => .nil
  | n :: r => .cons (.bl n) (dpAll_bls r)
theorem canLay_bls : ∀ ns : List Bool, PyData.canLayAll0 (ns.map PyData.bool) = true
  | [] => by rw [List.map_nil, PyData.canLayAll0]
  | n :: r => by
    rw [List.map_cons, PyData.canLayAll0, canLay_bls r]
    rfl
theorem depth_bls : ∀ ns : List Bool, PyData.depthAll (ns.map PyData.bool) = 0
  | [] => by rw [List.map_nil, PyData.depthAll]
  | n :: r => by
    rw [List.map_cons, PyData.depthAll, depth_bls r]
    rfl
theorem shB (ns : List Bool) : SeqAt.shaped (.list (ns.map PyData.bool)) = true := by
  simp [SeqAt.shaped, PyData.canLay0, canLay_bls, PyData.depth, depth_bls]
theorem evAll_bls : ∀ ns : List Bool, PyData.eqvAll (ns.map PyData.bool) (ns.map PyData.bool) = true
  | [] => by rw [List.map_nil, PyData.eqvAll]
  | n :: r => by
    rw [List.map_cons, PyData.eqvAll, evAll_bls r]
    cases n <;> simp [PyData.eqv]
theorem neD_bls {K : PySem.W.Frag} {H : Hp} {a b : Addr} {ns : List Bool} {Q : VK} (h1 : SqL K H a (ns.map V.bl)) (h2 : SqL K H b (ns.map V.bl)) (q : Q (.bl false) H) : rNeD K (.ref a) (.ref b) H Q :=
  ⟨_, _, .lst h1 (dpAll_bls ns), .lst h2 (dpAll_bls ns), shB ns, shB ns, by rw [PyData.eqv, evAll_bls]; exact q⟩
theorem take_get {α : Type} {l : List α} {i : Nat} {x : α} (h : l[i]? = some x) : l.take (i + 1) = l.take i ++ [x] := by
  rw [List.take_add_one, h]
  rfl
end L2

namespace L2
open PySem PySem.Spec PyProof.Rows
/-! ## own errors whose __init__ calls the base's by the base's name -/
/-- what the base class B says of B.__init__ -/
structure BaseI (K : PySem.W.Frag) (B : Addr) : Prop where
  ga : PySem.W.specialIn K (.ref B) "__getattribute__" = some (some (.builtin "type.__getattribute__"))
  ty : PySem.W.typeIn K (.ref B) = some (.type "type")
  rd : PySem.W.readsIn K B (.type "type") = true
  fi : PySem.W.findCls K (.ref B) (.type "type") "__init__" = some (.val (.builtin "ValueError.__init__"))
section
variable {X : Cx} {o e : Expr} {es : List Expr} {to te : TE} {ta : TA} {f x : Str} {p p' p1 p2 pos : Pos} {B : Addr}
theorem pe_binit {pl : Sem Bool} (T : BaseI X.K B) (hg : Gl X x) (hm : X.mg x = some (.ref B)) (ha : PA X (e :: es) ta) (hdb : (x == ("__debug__" : Str)) = false := by decide)
    (hc : eval (.Call (.Attribute (.Name x p1) "__init__" p2) (e :: es) [] pos) X.env = (do
      let ov ← eval (.Name x p1) X.env
      standAt p2.atName
      let (f, first) ← holding [ov] (getMethod ov "__init__" pl)
      callWith pos f first (backTo pos (starEach (e :: es) X.env)) (backToKw pos (keywordEach [] X.env))) := by rfl)
    (he : starEach (e :: es) X.env = (false, eval e X.env) :: starEach es X.env := by rfl) (hpl : (backTo pos (starEach es X.env)).any (·.1) = false := by rfl) :
    PE X (.Call (.Attribute (.Name x p1) "__init__" p2) (e :: es) [] pos) (tVeI X.K ta) := by
  refine ⟨fun pins s σ H Q I h => ?_⟩
  refine PySem.W.methodCall_KW (ld_glob I hg hm ?_ hdb) hc
  obtain ⟨m, fr⟩ := I.fr
  refine PySem.W.method_of_cls fr I.ok.mod.kin T.ga (PySem.W.cls_val fr I.ok.mod.kin T.ty T.rd T.fi (by decide +kernel) ?_)
  show wpAny _ _ (callWith pos (Value.builtin "ValueError.__init__") [] (backTo pos (starEach (e :: es) X.env)) []) _ _ _
  refine callWith_method1 (thn (ha.run pos pins _ σ H _ (I.tok _) h) fun us s1 ⟨vs, H1, I1, r1, a, C, ws, ev, hl, T, ea, q⟩ => ?_) he hpl
  subst ev
  cases r1 with
  | @cons _ u0 _ ur ra rw' =>
    obtain rfl : u0 = Value.ref a := ra
    exact oinit_ok T I1 ea (by rw [← Paired.length rw', sizeLine_eq]; omega) fun s' J => ⟨.non, H1, J, rfl, q⟩
end
/-! ## a class made, a method called, where what is raised is wished for at the slots -/
section
variable {X : Cx} {CX : CXT} {k : Nat} {f C : Addr} {fd : FuncData} {ps : List Str} {sp : Sp} {E : St → XK} {x m : Str} {p pos apos : Pos} {e o : Expr} {es : List Expr} {ta : TE} {t : TA}
def tMakeS (C : Addr) (sp : Sp) (E : St → XK) (t : TA) : TE := fun σ H Q => t σ H fun vs H1 => ∀ x dx, H1 x = none → H1 dx = none → dx ≠ x →
  sp (.ref x :: vs) (upd (upd H1 dx (.own x)) x (.ins C dx [])) (fun v H2 => v = .non ∧ Q (.ref x) H2) (E σ)
theorem run_makeS {pins : List (Addr × Obj)} {σ : St} {H : Hp} {s : Shared} {Q : VK} {us : List Value} {vs : List V} (M : Mk X.K C f) (F : FnOk X.prog X.w X.K X.mg X.base CX k f fd ps sp) (hr : Room (k + 1) X.A) (hb : Binds X.K fd ps [])
    (hx : PassesAt CX X σ (E σ)) (I : Inv X pins σ H s) (r : Vals vs us)
    (h : ∀ x dx, H x = none → H dx = none → dx ≠ x → sp (.ref x :: vs) (upd (upd H dx (.own x)) x (.ins C dx [])) (fun v H2 => v = .non ∧ Q (.ref x) H2) (E σ)) : wpAny (model X.prog X.w) X.A (call (.ref C) us) (EP X pins σ Q) X.xe s := by
  let n := s.heap.objs.size
  have want := h (n + 1) n (I.hok.fresh (Nat.le_succ n)) (I.hok.fresh (Nat.le_refl n)) (Nat.ne_of_lt (Nat.lt_succ_self n))
  have J := Inv.made (C := C) I
  have rr : Vals (V.ref (n + 1) :: vs) (Value.ref (n + 1) :: us) := Paired.cons rfl r
  have len : (Value.ref (n + 1) :: us).length = ps.length := rr.length.symm.trans (F.len _ _ _ _ want)
  have bnd := hb _ (Value.ref (n + 1) :: us) J.kIn (by rw [List.append_nil]; exact len)
  rw [List.append_nil] at bnd
  have body := F.run _ X.stack _ _ ⟨Value.ref (n + 1) :: us, []⟩ (Value.ref (n + 1) :: us) _ _ (E σ) (hr.make C us []) (J.env0.make C us []) bnd rr want
  refine wpAny_call (make_map (f := f) I.kIn M.makes M.init (beq_iff_eq.mp M.fn) (codeAny_mono body fun res s' hq => ?_))
  match res, hq with
  | .error er, hq => exact hx pins _ _ er s' J hq
  | .ok (.ret u), hq =>
    obtain ⟨v, H', I3, rv, ev, q3⟩ := J.after hq
    subst ev
    exact ⟨rv, V.ref (n + 1), H', I3, rfl, q3⟩
  | .ok .next, hq => exact hq.elim
  | .ok .brk, hq => exact hq.elim
  | .ok .cont, hq => exact hq.elim
theorem pe_makeS (M : Mk X.K C f) (F : FnOk X.prog X.w X.K X.mg X.base CX k f fd ps sp) (hr : Room (k + 1) X.A) (hg : Gl X x) (hm : X.mg x = some (.ref C)) (hb : Binds X.K fd ps []) (hx : ∀ σ, PassesAt CX X σ (E σ))
    (ha : PA X (e :: es) t) (hdb : (x == ("__debug__" : Str)) = false := by decide) (he : starEach (e :: es) X.env = (false, eval e X.env) :: starEach es X.env := by rfl) (hpl : (backTo pos (starEach es X.env)).any (·.1) = false := by rfl) :
    PE X (.Call (.Name x p) (e :: es) [] pos) (tMakeS C sp E t) :=
  ⟨fun pins s σ H Q I h => wpAny_Call_Name_kw (ld_glob I hg hm
    (PySem.W.callWith_K (h₀ := X.base) I.ok.mod.kin M.kp (thn (ha.run pos pins s σ H _ I h) fun us s1 ⟨vs, H1, I1, r, q⟩ => ⟨I1.kIn, run_makeS M F hr hb (hx σ) I1 r q⟩) he hpl) hdb)⟩
/-- o.m(e, ..), what is raised wished for at the slots -/
def tMethT (C : Addr) (m : Str) (sp : Sp) (E : St → XK) (ta : TE) (t : TA) : TE := fun σ H Q => ta σ H fun x H1 => ∃ a dx fs, x = .ref a ∧ H1 a = some (.ins C dx fs) ∧ fs.lookup m = none ∧ t σ H1 fun vs H2 => sp (.ref a :: vs) H2 Q (E σ)
theorem pe_methT {pl : Sem Bool} (ho : PE X o ta) (c : Cls X.K C) (hm : Meth X.K C m f) (F : FnOk X.prog X.w X.K X.mg X.base CX k f fd ps sp) (hr : Room k X.A) (hb : Binds X.K fd ps []) (hx : ∀ σ, PassesAt CX X σ (E σ)) (ha : PA X (e :: es) t)
    (hst : starEach (e :: es) X.env = (false, eval e X.env) :: starEach es X.env := by rfl) (hpl : (backTo pos (starEach es X.env)).any (·.1) = false := by rfl)
    (ht : eval (.Call (.Attribute o m apos) (e :: es) [] pos) X.env = (eval o X.env >>= fun ov => standAt apos.atName >>= fun _ => holding [ov] (getMethod ov m pl) >>= fun ff =>
      callWith pos ff.1 ff.2 (backTo pos (starEach (e :: es) X.env)) (backToKw pos (keywordEach [] X.env))) := by rfl) :
    PE X (.Call (.Attribute o m apos) (e :: es) [] pos) (tMethT C m sp E ta t) := by
  refine ⟨fun pins s σ H Q I h => ?_⟩
  refine PySem.W.methodCall_KW (pl := pl) (thn (ho.run pins s σ H _ I h) fun u s1 hh => ?_) ht
  obtain ⟨x, H1, I1, rx, a, dx, fs, ex, ea, l, q⟩ := hh
  subst ex
  cases rx
  refine getmeth_ok I1 ea c hm l (PySem.W.callWith_K (first := [.ref a]) (h₀ := X.base) I.ok.mod.kin hm.kp (thn (ha.run pos pins s1 σ H1 _ I1 q) fun us s2 ⟨vs, H2, I2, r, q2⟩ => ⟨I2.kIn, ?_⟩) hst hpl)
  exact run_fnS (us := .ref a :: us) (vs := .ref a :: vs) F hr hb (hx σ) I2 (.cons rfl r) q2
end
/-! ## an error is made and raised: its dict d holds its one field -/
/-- X.__init__(self, v): the base's __init__, then self.f = v -/
def spErr (C : Addr) (f : Str) (ok : V → Prop) : Sp := fun vs H Q _ => ∃ (a : Addr) (v : V), vs = [.ref a, v] ∧ ok v ∧ H a = some (exo a C none) ∧
  ∀ dx, H dx = none → dx ≠ a → Q .non (upd (upd H dx (exd dx [(f, v)])) a (exo a C (some dx)))
def okInt (v : V) : Prop := ∃ i : Int, v = .int i ∧ i.natAbs.log2 < 1920
theorem err_make {C : Addr} {f : Str} {ok : V → Prop} {v : V} {H : Hp} {W : Value → Option Addr → Hp → Prop} {E : XK} (hv : ok v) (k : ∀ d, H d = none → W (.ref C) (some d) (upd H d (.xd [(f, v)]))) :
    [v].length ≤ 1000 ∧ ∀ a, H a = none → spErr C f ok (.ref a :: ([v] ++ [])) (upd H a (exo a C none))
      (fun u H2 => u = .non ∧ ∃ (d : Addr) (fs : List (Str × V)), H2 a = some (exo a C (some d)) ∧ H2 d = some (exd d fs) ∧ H d = none ∧ W (.ref C) (some d) (upd (del H2 a) d (.xd fs))) E := by
  refine ⟨by show 1 ≤ 1000; decide, fun a na => ⟨a, v, rfl, hv, upd_same, fun dx ndx ne => ⟨rfl, dx, [(f, v)], upd_same, ?_, ?_, ?_⟩⟩⟩
  · rw [upd_ne ne, upd_same]
  · rw [upd_ne ne] at ndx
    exact ndx
  · rw [upd_ne ne] at ndx
    have e : upd (del (upd (upd (upd H a (exo a C none)) dx (exd dx [(f, v)])) a (exo a C (some dx))) a) dx (.xd [(f, v)]) = upd H dx (.xd [(f, v)]) := by
      funext b
      by_cases hb : b = dx
      · subst hb
        rw [upd_same, upd_same]
      · rw [upd_ne hb, upd_ne hb]
        by_cases ha : b = a
        · subst ha
          rw [del_same, na]
        · rw [del_ne ha, upd_ne ha, upd_ne hb, upd_ne ha]
    rw [e]
    exact k dx ndx
end L2
namespace PySem.W
open PySem PySem.Spec PySem.Calls PyProof.Rows
section
variable {prog : Program} {w : World} {A : Around} {E : Value → Shared → Prop} {s : Shared} {K : Frag} {x D : Addr} {ox : Obj} {od : Option Obj}
/-- what the class of an error says of __class__ and of its own getter -/
structure ErrK (K : Frag) (D : Addr) : Prop where
  ga : findIn K (.ref D) "__getattribute__" = some (some (.builtin "BaseException.__getattribute__"))
  gg : findIn K (.ref D) "__getattr__" = some none
  sb : subIn K (.ref D) (.type "BaseException") = some true
  hd : hasDictIn K D = true
  cl : findIn K (.ref D) "__class__" = some (some (.builtin "object.__class__"))
  gt : specialIn K (.builtin "object.__class__") "__get__" = some (some (.builtin "getset_descriptor.__get__"))
  tk : takesIn K (.builtin "object.__class__") = some true
  mr : mroIn K D (.type "object") = some true
/-- e.__class__ of an error, with a dict of its own or without -/
theorem err_cls {Q : Option Value → Shared → Prop} (Z : ErrK K D) (X : K.In s.heap) (I : InstAt s.heap x ox D od) (h : Q (some (.ref D)) { s with toks := s.toks + 1 }) : wpAny (model prog w) A (getAttr? (.ref x) "__class__") Q E s := by
  have found : findObj K D od "__class__" = some (.bind (.builtin "getset_descriptor.__get__") (.builtin "object.__class__")) := by
    obtain ⟨cd, hc, _⟩ := any_some Z.hd
    unfold findObj
    rw [hc, Option.bind_some, Z.cl, Option.bind_some]
    simp [Z.gt, Z.tk]
  rcases s with ⟨hp, gs, dr, tk, os⟩
  have la := I.type (M := model prog w); have lb := looks_findIn (M := model prog w) X Z.ga; have lc := looks_findIn (M := model prog w) X Z.gg; have ld := looks_find (M := model prog w) X I found
  have isB : Looks (model prog w) hp (isInstance (.ref x) (.type "BaseException")) true := la.andThen (looks_subIn X Z.sb)
  have n2 : (Value.builtin "BaseException.__getattribute__" == Value.builtin "object.__getattribute__") = false := by decide +kernel
  have n1 : (onTheHeap (Value.ref D) && Value.builtin "BaseException.__getattribute__" == Value.builtin "object.__getattribute__") = false := by rw [n2, Bool.and_false]
  unfold getAttr? getAttrBy? getAttrBy
  refine wpAny_bind (wpAny_mkText (wpAny_bind (wpAny_attempt (wpAny_holding (wpAny_bind (la.at (wpAny_bind (lb.at (?_ : wpAny _ _ (if (onTheHeap (Value.ref D) && Value.builtin "BaseException.__getattribute__" == Value.builtin "object.__getattribute__") = true then _ else _) _ _ _)))))))))
  rw [n1, if_neg Bool.false_ne_true]
  unfold getAttrByItsOwn hookBefore
  refine wpAny_bind (?_ : wpAny _ _ (if onTheHeap (Value.ref D) = true then _ else _) _ _ _)
  have oh : onTheHeap (Value.ref D) = true := rfl
  rw [if_pos oh]
  refine lc.at (wpAny_bind (wpAny_attempt (wpAny_holding ?_)))
  unfold callGetattribute
  rw [show (false && onTheHeap (Value.builtin "BaseException.__getattribute__")) = false from rfl, if_neg Bool.false_ne_true]
  unfold boundAndCalled
  rw [PySem.F.excAttr_ValueError.ga.bind (.ref x)]
  refine wpAny_bind (wpAny_pure (?_ : wpAny _ _ (call (.builtin "BaseException.__getattribute__") [.ref x, .str "__class__" tk]) _ _ _))
  refine wpAny_call (codeAny_call_builtin PySem.F.excAttr_ValueError.ga.plain PySem.F.entry_bexc_ga (@check_slot (model prog w) _ _ ⟨hp, gs, dr, tk + 1, os⟩ "BaseException.__getattribute__" "BaseException" "__getattribute__" (.ref x) [.str "__class__" tk] [] _ (by decide +kernel) (by decide +kernel) isB (PySem.F.args_bexc_ga (.ref x) (.str "__class__" tk)) ?_))
  unfold Builtin.«object.__getattribute__»
  refine wpAny_bind (wpAny_of_eq (a := ((Value.ref x : Value), [Value.str "__class__" tk])) (by first | rfl | (simp only [slotArgs]; rfl)) (wpAny_bind (wpAny_pure (wpAny_bind (la.at (wpAny_bind (ld.at ?_)))))))
  refine (?_ : wpAny _ _ (holding [Value.builtin "object.__class__"] (call (.builtin "getset_descriptor.__get__") [.builtin "object.__class__", .ref x, .ref D]) >>= ret) _ _ _)
  refine wpAny_bind (wpAny_holding (wpAny_call (class_get (s := ⟨hp, gs, dr, tk + 1, os⟩) (ox := ox) (od := od) X I Z.mr (wpAny_pure (?_ : wpAny _ _ (handedOut (.ref D)) _ _ _)))))
  rw [handedOut_of (v := .ref D) rfl]
  first
    | exact wpAny_pure (wpAny_pure h)
    | exact wpAny_pure h
    | exact wpAny_pure (wpAny_bind (wpAny_pure (wpAny_pure h)))
theorem err_kit (Z : ErrK K D) : KitX K (.ref x) (.ref D) (fun h => ∃ ox od, InstAt h x ox D od) := by
  have own : ∃ c' d' cd' sl', K.lookup D = some ⟨c', d', .cls cd', sl'⟩ := by
    obtain ⟨cd, hc, _⟩ := any_some Z.hd
    unfold clsIn at hc
    split at hc
    · rename_i c' d' cd' sl' ho
      exact ⟨_, _, _, _, ho⟩
    · cases hc
  obtain ⟨c', d', cd', sl', ho⟩ := own
  refine ⟨fun _ _ _ ⟨_, _, I⟩ => I.type, fun _ _ X _ A' Q' E' s' k q => ?_, fun h tp dd its n sl X htp => Bool.eq_false_iff.mpr fun q => ?_, fun X ⟨_, _, I⟩ k => err_cls Z X I k⟩
  · unfold isType loadHead
    exact wpAny_bind (wpAny_loadPart (k _ _ (X _ _ ho)) (wpAny_pure q))
  · have e : D = tp := Value.ref.inj (beq_iff_eq.mp q)
    subst e
    have z := (X _ _ ho).symm.trans htp
    cases z
end
end PySem.W
namespace L2
open PySem PySem.Spec PyProof.Rows
/-- isinstance(e, c), e the error that the suite holds, with a dict of its own at d -/
def rIsD (K : PySem.W.Frag) (cls : Value) (d : Option Addr) (a : Addr) : List V → Hp → VK → Prop := fun xs H Q => ∃ (D dd : Addr) (fs : List (Str × V)) (c : V) (cv : Value) (b : Bool), cls = .ref D ∧ d = some dd ∧ H dd = some (.xd fs) ∧ PySem.W.ErrK K D ∧ xs = [.ref a, c] ∧ ClsV c cv ∧ PySem.W.kitOne K (.ref D) cv = some b ∧ Q (.bl b) H
theorem call_isD {X : Cx} {a : Addr} {oe : Obj} {cls : Value} {d : Option Addr} {pn : List (Addr × Obj)} (hz : Zc cls d oe) (hf : ∃ vs, oe.data = .fields vs) : CallR (X.suite a ((a, oe) :: pn)) (.builtin "isinstance") (rIsD X.K cls d a) := by
  intro pins s σ H xs us Q I r h
  obtain ⟨D, dd, fs, c, cv, b, rfl, rfl, hdd, Z, rfl, hc, e, q⟩ := h
  cases r with
  | cons rx rr =>
    cases rr with
    | cons rt rr =>
      cases rr
      cases rx
      obtain rfl := hc.eq rt
      obtain ⟨hget, _⟩ := I.pin (a, oe) (List.mem_append.mpr (.inl List.mem_cons_self))
      obtain ⟨vs, hv⟩ := hf
      have hx : ObjOk X.prog X.w H s.heap dd (.xd fs) := I.hok dd _ hdd
      obtain ⟨mA, hns, _⟩ := hx
      obtain ⟨od, ho, _⟩ := lookIn_ns hns
      have J : PySem.W.InstAt s.heap a oe D (some od) := ⟨hget, hz.1, by unfold PySem.W.notCls; rw [hv] <;> rfl, by rw [hz.2]; exact ho⟩
      exact PySem.W.kia_one (PySem.W.err_kit Z) I.kIn ⟨oe, some od, J⟩ e (fun z => nomatch z) fun tk => ⟨.bl b, H, I.kept (t' := tk) fun _ _ z => z, rfl, q⟩
end L2

namespace L2
open PySem PySem.Spec PyProof.Rows
/-! ## how long the words of an error are -/
theorem len_nat {n k : Nat} (hk : 0 < k) (h : n < 10 ^ k) : (Nat.repr n).toList.length ≤ k := by
  unfold Nat.repr
  rw [String.toList_ofList]
  exact (Nat.length_toDigits_le_iff (by decide) hk).mpr h
theorem len_toString {i : Int} {k : Nat} (hk : 0 < k) (h : i.natAbs < 10 ^ k) : (toString i).toList.length ≤ k + 1 := by
  show (Int.repr i).toList.length ≤ k + 1
  unfold Int.repr
  cases i with
  | ofNat m => exact Nat.le_succ_of_le (len_nat hk h)
  | negSucc m =>
    show ("-" ++ Nat.repr (m + 1)).toList.length ≤ k + 1
    rw [String.toList_append, List.length_append]
    have := len_nat hk (show m + 1 < 10 ^ k from h)
    show 1 + _ ≤ _
    omega
theorem len_app (a b : PySem.Str) : (a ++ b).length = a.length + b.length := by
  have e1 : (a ++ b).cps.toList.length = (a ++ b).length := Array.length_toList
  have e2 : a.cps.toList.length = a.length := Array.length_toList
  have e3 : b.cps.toList.length = b.length := Array.length_toList
  rw [PySem.W.KT.app_list, List.length_append, e2, e3] at e1
  exact e1.symm
/-- a number that an error may carry -/
def Bd (i : Int) : Prop := i.natAbs < 2 ^ 400
theorem Bd.log {i : Int} (h : Bd i) : i.natAbs.log2 < 1920 := by
  by_cases h0 : i.natAbs = 0
  · rw [h0]; decide
  · exact (Nat.log2_lt h0).mpr (Nat.lt_of_lt_of_le h (Nat.pow_le_pow_right (by decide) (by decide)))
theorem Bd.len {i : Int} (h : Bd i) : (PySem.Str.ofString (toString i)).length ≤ 200 := by
  rw [PySem.ofString_length]
  exact Nat.le_trans (len_toString (k := 150) (by decide) (Nat.lt_of_lt_of_le h (by decide +kernel))) (by decide)
def okB (v : V) : Prop := ∃ i : Int, v = .int i ∧ Bd i
/-! ## a pupil made of questions of which some may be none -/
def firstBad (l : List Int) : Option Int := l.find? fun k => !decide (0 ≤ k ∧ k < 48)
theorem first_of : ∀ {l : List Int} {i : Nat} {z : Int}, l[i]? = some z → (∀ y ∈ l.take i, 0 ≤ y ∧ y < 48) → ¬ (0 ≤ z ∧ z < 48) → firstBad l = some z
  | [], i, z, h, _, _ => by simp at h
  | y :: r, 0, z, h, _, hz => by
    have e : y = z := Option.some.inj h
    subst e
    unfold firstBad
    rw [List.find?_cons, decide_eq_false hz]
    rfl
  | y :: r, i + 1, z, h, hp, hz => by
    have hy := hp y (by rw [List.take_succ_cons]; exact List.mem_cons_self)
    have := first_of (l := r) (i := i) (z := z) h (fun u hu => hp u (by rw [List.take_succ_cons]; exact List.mem_cons_of_mem _ hu)) hz
    unfold firstBad at this ⊢
    rw [List.find?_cons, decide_eq_true hy]
    exact this
theorem first_none {l : List Int} (h : Qn l) : firstBad l = none := by
  unfold firstBad
  rw [List.find?_eq_none]
  intro x hx
  rw [decide_eq_true (h x hx)]
  decide
def spInitX (K : PySem.W.Frag) (C CB : Addr) : Sp := fun vs H Q E => ∃ (x dx q : Addr) (l : List Int), vs = [.ref x, .ref q] ∧ H x = some (.ins C dx []) ∧ SqA K H q (l.map V.int) ∧ l.length ≤ 500 ∧ (∀ z ∈ l, Bd z) ∧
  (Qn l → ∀ H' t, H' x = some (.ins C dx [("rights", .ref t)]) → H' t = some (.tup ((norm l).map V.int)) → (∀ b o, b ≠ x → H b = some o → H' b = some o) → Q .non H') ∧
  ∀ z, firstBad l = some z → ∀ d H', H d = none → Same H H' → H' d = some (.xd [("number", .int z)]) → E (.ref CB) (some d) H'
theorem pupX_make {K : PySem.W.Frag} {C CB q : Addr} {H : Hp} {l : List Int} {R : Addr → Hp → Prop} {E : XK} (hq : SqA K H q (l.map V.int)) (hl : l.length ≤ 500) (hb : ∀ z ∈ l, Bd z) (k : Qn l → ∀ x H', H x = none → Same H H' → PupAt C H' x l → R x H')
    (kx : ∀ z, firstBad l = some z → ∀ d H', H d = none → Same H H' → H' d = some (.xd [("number", .int z)]) → E (.ref CB) (some d) H') :
    ∀ x dx, H x = none → H dx = none → dx ≠ x → spInitX K C CB [.ref x, .ref q] (upd (upd H dx (.own x)) x (.ins C dx [])) (fun v H2 => v = .non ∧ R x H2) E := by
  intro x dx nx ndx ne
  have s0 : Same H (upd (upd H dx (.own x)) x (.ins C dx [])) := (same_upd ndx).mut nx
  refine ⟨x, dx, q, l, rfl, upd_same, hq.same s0, hl, hb, fun hn H' t h1 h2 h3 => ⟨rfl, k hn x H' nx (fun b o e => ?_) ⟨dx, t, h1, h2⟩⟩, fun z hz d H' nd e h => kx z hz d H' (s0.free nd) (s0.trans e) h⟩
  exact h3 b o (ne_of_none e nx) (s0 b o e)
/-- where all are questions nothing is raised -/
theorem pupX_good {K : PySem.W.Frag} {C CB q : Addr} {H : Hp} {l : List Int} {R : Addr → Hp → Prop} {E : XK} (hq : SqA K H q (l.map V.int)) (hl : l.length ≤ 500) (hn : Qn l) (k : ∀ x H', H x = none → Same H H' → PupAt C H' x l → R x H') :
    ∀ x dx, H x = none → H dx = none → dx ≠ x → spInitX K C CB [.ref x, .ref q] (upd (upd H dx (.own x)) x (.ins C dx [])) (fun v H2 => v = .non ∧ R x H2) E :=
  pupX_make hq hl (fun z hz => by have := hn z hz; unfold Bd; have : z.natAbs < 48 := by omega
                                  exact Nat.lt_trans this (by decide +kernel)) (fun _ => k) fun z hz => by rw [first_none hn] at hz; cases hz
def spAddedX (C CB : Addr) : Sp := fun vs H Q E => ∃ (a : Addr) (p : List Int) (z : Int), vs = [.ref a, .int z] ∧ PupAt C H a p ∧ Bd z ∧
  ((0 ≤ z ∧ z < 48) → ∀ x H', H x = none → Same H H' → PupAt C H' x (p ++ [z]) → Q (.ref x) H') ∧
  (¬ (0 ≤ z ∧ z < 48) → ∀ d H', H d = none → Same H H' → H' d = some (.xd [("number", .int z)]) → E (.ref CB) (some d) H')
theorem Bd.small {z : Int} (h0 : -1000 ≤ z) (h1 : z < 1000) : Bd z := by
  unfold Bd
  have : z.natAbs < 1001 := by omega
  exact Nat.lt_trans this (by decide +kernel)
theorem kit_sub {K : PySem.W.Frag} {C B : Addr} (h : PySem.W.subIn K (.ref C) (.ref B) = some true) (h2 : PySem.W.isClsIn K B = true) (h3 : PySem.W.typeIn K (.ref B) = some (.type "type")) : PySem.W.kitOne K (.ref C) (.ref B) = some true := by
  unfold PySem.W.kitOne
  split
  · rfl
  · show (if ((PySem.W.clsIn K B).isSome && PySem.W.typeIn K (.ref B) == some (.type "type")) = true then PySem.W.subIn K (.ref C) (.ref B) else none) = some true
    rw [show (PySem.W.clsIn K B).isSome = true from h2, h3, h]
    rfl
end L2

namespace L2
open PySem PySem.Spec PyProof.Rows
/-! ## an object of an own class made by C(e, .., k=v) -/
section
variable {X : Cx} {CX : CXT} {k n : Nat} {f C : Addr} {fd : FuncData} {ps ks : List Str} {sp : Sp} {E : St → XK} {x : Str} {p pos : Pos} {e : Expr} {es : List Expr} {kws : List Keyword} {t tk : TA} {g : List Value → List Value → List Value} {gV : List V → List V → List V}
def tMakeN (C : Addr) (n m : Nat) (sp : Sp) (gV : List V → List V → List V) (E : St → XK) (t tk : TA) : TE := fun σ H Q => t σ H fun vs H1 => tk σ H1 fun zs H2 => vs.length + 1 = n ∧ zs.length = m ∧ ∀ x dx, H2 x = none → H2 dx = none → dx ≠ x →
  sp (gV (.ref x :: vs) zs) (upd (upd H2 dx (.own x)) x (.ins C dx [])) (fun v H3 => v = .non ∧ Q (.ref x) H3) (E σ)
theorem run_makeN {pins : List (Addr × Obj)} {σ : St} {H : Hp} {s : Shared} {Q : VK} {us ws : List Value} {vs zs : List V} (M : Mk X.K C f) (F : FnOk X.prog X.w X.K X.mg X.base CX k f fd ps sp) (hr : Room (k + 1) X.A) (hb : KBn X.K fd ps n ks g gV)
    (hx : PassesAt CX X σ (E σ)) (I : Inv X pins σ H s) (r : Vals vs us) (rz : Vals zs ws) (hn : vs.length + 1 = n) (hz : zs.length = ks.length)
    (h : ∀ x dx, H x = none → H dx = none → dx ≠ x → sp (gV (.ref x :: vs) zs) (upd (upd H dx (.own x)) x (.ins C dx [])) (fun v H2 => v = .non ∧ Q (.ref x) H2) (E σ)) : wpAny (model X.prog X.w) X.A (call (.ref C) us (ks.zip ws)) (EP X pins σ Q) X.xe s := by
  let n0 := s.heap.objs.size
  have want := h (n0 + 1) n0 (I.hok.fresh (Nat.le_succ n0)) (I.hok.fresh (Nat.le_refl n0)) (Nat.ne_of_lt (Nat.lt_succ_self n0))
  have J := Inv.made (C := C) I
  have rr : Vals (V.ref (n0 + 1) :: vs) (Value.ref (n0 + 1) :: us) := Paired.cons rfl r
  have bnd := hb.to _ (Value.ref (n0 + 1) :: us) ws J.kIn (by rw [← rr.length]; exact hn) (by rw [← rz.length]; exact hz)
  have body := F.run _ X.stack _ _ ⟨Value.ref (n0 + 1) :: us, ks.zip ws⟩ (g (Value.ref (n0 + 1) :: us) ws) _ _ (E σ) (hr.make C us (ks.zip ws)) (J.env0.make C us (ks.zip ws)) bnd (hb.rel rr rz) want
  refine wpAny_call (make_map (f := f) I.kIn M.makes M.init (beq_iff_eq.mp M.fn) (codeAny_mono body fun res s' hq => ?_))
  match res, hq with
  | .error er, hq => exact hx pins _ _ er s' J hq
  | .ok (.ret u), hq =>
    obtain ⟨v, H', I3, rv, ev, q3⟩ := J.after hq
    subst ev
    exact ⟨rv, V.ref (n0 + 1), H', I3, rfl, q3⟩
  | .ok .next, hq => exact hq.elim
  | .ok .brk, hq => exact hq.elim
  | .ok .cont, hq => exact hq.elim
theorem pe_makeN (M : Mk X.K C f) (F : FnOk X.prog X.w X.K X.mg X.base CX k f fd ps sp) (hr : Room (k + 1) X.A) (hg : Gl X x) (hm : X.mg x = some (.ref C)) (hb : KBn X.K fd ps n ks g gV) (hx : ∀ σ, PassesAt CX X σ (E σ))
    (ha : PA X (e :: es) t) (hk : PK X kws tk) (h1 : ((backToKw pos (keywordEach kws X.env)).all fun x => x.fst.isSome) = true := by rfl) (h2 : List.filterMap (fun x => x.fst) (backToKw pos (keywordEach kws X.env)) = ks := by rfl)
    (hdb : (x == ("__debug__" : Str)) = false := by decide) (he : starEach (e :: es) X.env = (false, eval e X.env) :: starEach es X.env := by rfl)
    (hpl : ((((backTo pos (starEach (e :: es) X.env)).any fun x => x.fst) || (backToKw pos (keywordEach kws X.env)).any fun x => x.fst.isNone) = false) := by rfl) :
    PE X (.Call (.Name x p) (e :: es) kws pos) (tMakeN C n ks.length sp gV E t tk) := by
  refine ⟨fun pins s σ H Q I h => wpAny_Call_Name_kw (ld_glob I hg hm ?_ hdb)⟩
  refine PySem.W.callWith_KW (h₀ := X.base) I.ok.mod.kin M.kp h1 (thn (ha.run pos pins s σ H _ I h) fun us s1 hh => ?_) hpl he
  obtain ⟨vs, H1, I1, r, hq⟩ := hh
  refine thn (hk.run pos pins s1 σ H1 _ I1 hq) fun ws s2 hh => ?_
  obtain ⟨zs, H2, I2, rz, hn, hz, q⟩ := hh
  refine ⟨I2.kIn, ?_⟩
  rw [h2]
  exact run_makeN M F hr hb (hx σ) I2 r rz hn hz q
end
end L2

namespace PySem
open PySem PySem.Spec PyProof.Rows L2
theorem wp_ite {α : Type} {M : Model} {A : Around} {E : Value → Shared → Prop} {s : Shared} {Q : α → Shared → Prop} {c : Bool} {t u : Sem α} (h1 : wpAny M A t Q E s) (h2 : wpAny M A u Q E s) : wpAny M A (if c = true then t else u) Q E s := by
  cases c
  · rw [if_neg (by decide)]; exact h2
  · rw [if_pos rfl]; exact h1
theorem enumT_new (l : Addr) (items : Array Value) :
  Meets (Builtin.«enumerate.__new__» ⟨[.type "enumerate", .ref l], []⟩) fun A R s =>
    s.heap.IsTuple l items ∧ R (.ok (.ret (.ref (s.heap.push { cls := .type "tuple_iterator", data := .fields #[.ref l, .int 0 0] }).objs.size)))
      { s with heap := (s.heap.push { cls := .type "tuple_iterator", data := .fields #[.ref l, .int 0 0] }).push { cls := .type "enumerate", data := .fields #[.none, .bool false, .ref s.heap.objs.size, rawInt 0, .none, .none] } } := by
  intro prog w A R s ⟨ht, hR⟩
  have rest : ∀ b : Bool, wpAny (model prog w) A.in1 (pyIter (.ref l) >>= fun it => Builtin.SmallTypes.newRecord (.type "enumerate") (Builtin.SmallTypes.ownedTupleFields ++ [it, rawInt 0, .none, .none]) >>= fun r => ret r)
      (fun fin s' => match fin with
        | Fin.done f => R (.ok f) s'
        | Fin.again c' => Code.quiet c' = true ∧ codeAny (model prog w) A c' R s') (fun e s' => R (.error e) s') s := fun _ => by
    refine wpAny_bind (wpAny_pyIter_tuple ht (wpAny_bind ?_))
    unfold Builtin.SmallTypes.newRecord newObj
    show wpAny _ _ (if _ then _ else _) _ _ _
    rw [if_neg (by show ¬ (6 > sizeLine + 2); decide)]
    unfold newObjAsIs
    refine wpAny_bind (wpAny_alloc (wpAny_pure ?_))
    exact wpAny_pure hR
  unfold Builtin.«enumerate.__new__» Builtin.SmallTypes.newClass
  refine wpAny_bind (wpAny_of_eq (a := (Value.type "enumerate", [Value.ref l])) ?_ ?_)
  · show (isSubtype (.type "enumerate") (.type "enumerate") >>= fun b => _) = _
    rw [sub_enumerate]
    rfl
  · show wpAny _ _ (if (Value.type "enumerate" == Value.type "enumerate") = true then _ else _) _ _ _
    rw [if_pos (beq_self_eq_true _)]
    unfold Builtin.SmallTypes.calledThroughType
    refine wpAny_bind (wpAny_bind (wpAny_stack fun st _ _ _ => wpAny_pure ?_))
    refine wp_ite ?_ ?_
    · refine wpAny_bind (wpAny_of_eq (a := (Value.ref l, none)) rfl ?_)
      exact rest true
    · refine wpAny_bind (wpAny_of_eq (a := (Value.ref l, none)) rfl ?_)
      exact rest true
theorem Draws.tuple {prog : Program} {w : World} {A : Around} (hA : A.handled = none) (it l : Addr) (ne : l ≠ it) (items : Array Value) :
    PySem.Draws prog w A it [it, l] items.size (fun i v => items[i]? = some v) fun i h => h.IsTupleIter it l i ∧ h.IsTuple l items := by
  refine ⟨fun i h ⟨⟨o, ho, _⟩, _⟩ => ⟨o, ho⟩, fun i h h' ⟨a, b⟩ k => ⟨a.at (k it (by simp)), b.at (k l (by simp))⟩, fun i s Q E hi ⟨a, b⟩ k => ?_, fun s Q E ⟨a, b⟩ k => ?_⟩
  · refine RZ.nextOf_tuple_item a b (Array.getElem?_eq_getElem hi) fun h' a' sb => ?_
    exact k _ h' s.toks (Array.getElem?_eq_getElem hi) ⟨a', b.at fun o ho => by rw [sb.2 l ne]; exact ho⟩ sb
  · exact RZ.nextOf_tuple_end hA a b (by simp) fun h' e x y => k h' e x y
theorem call_enumT {prog : Program} {w : World} {A : Around} {E : Value → Shared → Prop} {s : Shared} {l : Addr} {items : Array Value} {Q : Value → Shared → Prop} (ht : s.heap.IsTuple l items)
    (h : ∀ h' : Heap, IsEnum h' (s.heap.objs.size + 1) s.heap.objs.size 0 .none → h'.IsTupleIter s.heap.objs.size l 0 → h'.objs.size = s.heap.objs.size + 2 → (∀ b o, s.heap.get? b = some o → h'.get? b = some o) → Q (.ref (s.heap.objs.size + 1)) { s with heap := h' }) :
    wpAny (model prog w) A (call (.type "enumerate") [.ref l]) Q E s := by
  have e1 : (s.heap.push { cls := .type "tuple_iterator", data := .fields #[.ref l, .int 0 0] }).objs.size = s.heap.objs.size + 1 := by rw [Heap.size_push]
  have keep : ∀ b o, s.heap.get? b = some o → ((s.heap.push { cls := .type "tuple_iterator", data := .fields #[.ref l, .int 0 0] }).push { cls := .type "enumerate", data := .fields #[.none, .bool false, .ref s.heap.objs.size, rawInt 0, .none, .none] }).get? b = some o := fun b o e => Heap.get?_push_of_some _ (Heap.get?_push_of_some _ e)
  have g1 : ((s.heap.push { cls := .type "tuple_iterator", data := .fields #[.ref l, .int 0 0] }).push { cls := .type "enumerate", data := .fields #[.none, .bool false, .ref s.heap.objs.size, rawInt 0, .none, .none] }).get? (s.heap.objs.size + 1) = some { cls := .type "enumerate", data := .fields #[.none, .bool false, .ref s.heap.objs.size, rawInt 0, .none, .none] } := by heap_get
  have g0 : ((s.heap.push { cls := .type "tuple_iterator", data := .fields #[.ref l, .int 0 0] }).push { cls := .type "enumerate", data := .fields #[.none, .bool false, .ref s.heap.objs.size, rawInt 0, .none, .none] }).get? s.heap.objs.size = some { cls := .type "tuple_iterator", data := .fields #[.ref l, .int 0 0] } := by heap_get
  refine callType_new F.called_enumerate (by decide) (F.typeCall_enumerate_1 _) (F.newCall_enumerate_1 _) ?_ F.entry_enumerate_new (enumT_new l items) ?_
  · intro obj
    exact F.args_object_init_1 obj
  · refine ⟨ht, ?_⟩
    show _ ∧ _
    refine ⟨?_, ?_⟩
    · rw [e1]
      exact ⟨_, g1, rfl⟩
    · rw [e1]
      exact h _ g1 ⟨_, g0, rfl, rfl⟩ (by rw [Heap.size_push, e1]) keep
end PySem
namespace L2
open PySem PySem.Spec PyProof.Rows
/-- enumerate over a tuple -/
def IteT (K : PySem.W.Frag) (a : Addr) : It :=
  ⟨fun i H => ∃ xs x, SqT K H a xs ∧ xs[i]? = some x, fun i H v H' => ∃ T x, v = .ref T ∧ H T = none ∧ H' = upd H T (.tup [.int (i : Nat), x]) ∧ ∀ xs, SqT K H a xs → xs[i]? = some x, fun i H => ∃ xs, SqT K H a xs ∧ xs.length = i⟩
def iEnumT (K : PySem.W.Frag) (ta : TA) : TI := fun σ H R => ta σ H fun vs H1 => ∃ a xs, vs = [.ref a] ∧ SqT K H1 a xs ∧ R (IteT K a) H1
theorem turn_enumT {P : Program} {w : World} {K : PySem.W.Frag} {elts : List Expr} {kk : Nat} {tpos : Pos} (a e it : Addr) :
    Turn P w K (.Tuple elts kk tpos) (IteT K a) [e, it] e fun i h => (∃ old, IsEnum h e it (i : Nat) old) ∧ h.IsTupleIter it a i ∧ e ≠ it := by
  refine ⟨by simp, fun i h ⟨⟨old, z⟩, ⟨o, ho, _, hd⟩, _⟩ b hb => ?_, fun i h h' ⟨⟨old, z⟩, y, ne⟩ k => ⟨⟨old, k e (by simp) _ z⟩, y.at (k it (by simp)), ne⟩, fun X hP hw hK hc i pins s σ H E I fp ⟨⟨old, z⟩, y, ne⟩ go => ?_, fun X hP hw hK hc i pins s σ H E I fp ⟨⟨old, z⟩, y, ne⟩ st => ?_, fun A i s Q E ⟨⟨old, z⟩, y, ne⟩ q => wpAny_pyIter_enum z q⟩
  · rcases List.mem_cons.mp hb with e1 | hb
    · subst e1
      exact ⟨_, z, fun v h => by cases h⟩
    · obtain rfl := List.mem_singleton.mp hb
      exact ⟨o, ho, fun v h => by rw [hd] at h; cases h⟩
  · subst hP hw hK
    obtain ⟨xs, x, hs, hx⟩ := go
    obtain ⟨its, hv, ht, hlen⟩ := I.tuple hs
    have hl := hv.length
    have hi : i < its.toArray.size := by
      have := (List.getElem?_eq_some_iff.mp hx).1
      rw [List.size_toArray]
      omega
    have ha : a ≠ it := fun q => by
      subst q
      obtain ⟨o, ho, hc, _⟩ := y
      obtain ⟨o', ho', hc', _⟩ := ht
      rw [ho] at ho'
      obtain rfl := Option.some.inj ho'
      rw [hc] at hc'
      exact absurd hc' (by decide)
    refine wpAny_pyNext_enum_itemD (Draws.tuple (A := X.A.in1) (I.ok.hd hc) it a ha its.toArray) z ⟨y, ht⟩ hi ne (by
      intro q
      rcases List.mem_cons.mp q with q | q
      · exact ne q
      · have q := List.mem_singleton.mp q
        subst q
        obtain ⟨o', ho', hc', _⟩ := ht
        rw [z] at ho'
        obtain rfl := Option.some.inj ho'
        exact absurd hc' (by show ¬ (Value.type "enumerate" = Value.type "tuple"); decide)) fun x' h' tk hx' out st' tup sz kp => ?_
    obtain ⟨u, hu, ru⟩ : ∃ u, its[i]? = some u ∧ RelV x u := paired_get hv hx
    have ex : x' = u := by
      rw [List.getElem?_toArray, hu] at hx'
      exact (Option.some.inj hx').symm
    subst ex
    have hT : H s.heap.objs.size = none := I.hok.fresh (Nat.le_refl _)
    refine ⟨_, rfl, wpAny_letOwnedTupleGo_enum out fun h2 z2 sb => ?_⟩
    have eT : s.heap.objs.size ≠ e := fun q => Nat.lt_irrefl _ (q ▸ Heap.lt_size z)
    have tup2 : h2.get? s.heap.objs.size = some { cls := .type "tuple", data := .seq #[.int (i : Nat) tk, x'] } := by rw [sb.2 _ eT]; exact tup
    have y2 : h2.IsTupleIter it a (i + 1) := st'.1.at fun o ho => by rw [sb.2 it (Ne.symm ne)]; exact ho
    refine ⟨.ref s.heap.objs.size, upd H s.heap.objs.size (.tup [.int (i : Nat), x]), ?_, rfl, ⟨_, x, rfl, hT, rfl, fun ys hy => by rw [I.tuple_inj hy hs]; exact hx⟩, ⟨⟨x', z2⟩, y2, ne⟩, fun b hb => ?_⟩
    · refine Inv.turnedNew (s := s) (ch := [e, it]) I (fun b o nb hb => ?_) fp (Nat.le_refl _) ⟨by show 2 ≤ sizeLine; decide, [.int (i : Nat) tk, x'], .cons ⟨tk, rfl⟩ (.cons ru .nil), ⟨_, tup2, rfl, _, rfl⟩⟩
      have n1 : b ≠ e := fun q => nb (by rw [q]; simp)
      have n2 : b ≠ it := fun q => nb (by rw [q]; simp)
      rw [sb.2 b n1]
      exact kp b o n1 n2 hb
    · have nb : b ≠ s.heap.objs.size := by
        rcases List.mem_cons.mp hb with q | q
        · rw [q]; exact Ne.symm eT
        · rw [List.mem_singleton.mp q]
          obtain ⟨o, ho, _⟩ := y
          exact fun q => Nat.lt_irrefl _ (q ▸ Heap.lt_size ho)
      rw [upd_ne nb]
      exact (fp b hb).1
  · subst hP hw hK
    obtain ⟨xs, hs, hl⟩ := st
    obtain ⟨its, hv, ht, hlen⟩ := I.tuple hs
    have hl2 := hv.length
    have ha : a ≠ it := fun q => by
      subst q
      obtain ⟨o, ho, hc, _⟩ := y
      obtain ⟨o', ho', hc', _⟩ := ht
      rw [ho] at ho'
      obtain rfl := Option.some.inj ho'
      rw [hc] at hc'
      exact absurd hc' (by decide)
    have en : its.toArray.size = i := by rw [List.size_toArray]; omega
    refine wpAny_pyNext_enum_endD (Draws.tuple (A := X.A.in1) (I.ok.hd hc) it a ha its.toArray) z (by rw [en]; exact ⟨y, ht⟩) fun h' eb => ⟨rfl, ?_⟩
    have f := fp it (by simp)
    exact I.turned (fun b o nb hb => eb b o nb hb) f.1 f.2.1 f.2.2.2.1 f.2.2.2.2.1 f.2.2.2.2.2
theorem pi_enumT {X : Cx} {e : Expr} {ta : TA} {p pos tpos : Pos} {elts : List Expr} {kk : Nat} (hg : Gl X "enumerate") (hm : X.mg "enumerate" = none) (ha : PA X [e] ta) (he : starEach [e] X.env = [(false, eval e X.env)] := by rfl) :
    PI X (.Tuple elts kk tpos) (.Call (.Name "enumerate" p) [e] [] pos) (iEnumT X.K ta) := by
  refine ⟨fun pins s σ H R I h => ?_⟩
  refine wpAny_Call_Name_kw (ld_blt I hg hm (u := .type "enumerate") (by decide +kernel) ?_ (by decide) (by decide))
  refine PyProof.Rows.callWith_type1 (thn (ha.run pos pins s σ H _ I h) fun us s1 hh => ?_) he rfl
  obtain ⟨vs, H1, I1, r, a, xs, ev, hs, hR⟩ := hh
  subst ev
  cases r with
  | cons ra rr =>
    cases rr
    cases ra
    obtain ⟨its, hv, ht, hlen⟩ := I1.tuple hs
    refine call_enumT ht fun h' z y sz keep => wpAny_pyIter_enum z ?_
    have n1 : s1.heap.objs.size + 1 ≠ s1.heap.objs.size := Nat.succ_ne_self _
    refine ⟨s1.heap.objs.size + 1, [s1.heap.objs.size + 1, s1.heap.objs.size], _, IteT X.K a, H1, rfl, I1.kept keep, turn_enumT a (s1.heap.objs.size + 1) s1.heap.objs.size, ⟨⟨_, z⟩, y, n1⟩, fun b hb => ?_, hR⟩
    have hle : s1.heap.objs.size ≤ b := by
      rcases List.mem_cons.mp hb with q | q
      · rw [q]; exact Nat.le_succ _
      · rw [List.mem_singleton.mp q]; exact Nat.le_refl _
    exact I1.fpOk hle (I1.hok.fresh hle)
/-- a loop over enumerate(a tuple) -/
theorem for_enumT {K : PySem.W.Frag} {a : Addr} {xs : List V} {g : TG} {tb : TS} {D : Ends} {σ : St} {H : Hp} (Pv : Nat → St → Hp → Prop) (h0 : Pv 0 σ H) (hs : ∀ i σ H, i ≤ xs.length → Pv i σ H → SqT K H a xs)
    (st : ∀ i x σ H T, xs[i]? = some x → Pv i σ H → H T = none → g (.ref T) σ (upd H T (.tup [.int (i : Nat), x])) fun σ2 H2 => tb { nx := Pv (i + 1), rt := D.rt, bk := D.nx, ct := Pv (i + 1) } σ2 H2)
    (e : ∀ σ H, Pv xs.length σ H → D.nx σ H) :
    ∃ W : Nat → Nat → St → Hp → Prop, (∃ m, W 0 m σ H) ∧ ∀ i m σ H, W i m σ H → (IteT K a).stop i H ∧ D.nx σ H ∨ (IteT K a).go i H ∧ ∃ N : St → Hp → Prop, (∀ σ' H', N σ' H' → ∃ m', m' < m ∧ W (i + 1) m' σ' H') ∧
      ∀ x H', (IteT K a).yld i H x H' → g x σ H' fun σ2 H2 => tb { nx := N, rt := D.rt, bk := D.nx, ct := N } σ2 H2 := by
  refine ⟨fun i m σ H => Pv i σ H ∧ i + m = xs.length, ⟨xs.length, h0, Nat.zero_add _⟩, fun i m σ H ⟨hp, hm⟩ => ?_⟩
  have hS := hs i σ H (by omega) hp
  by_cases hi : i < xs.length
  · refine .inr ⟨⟨xs, xs[i], hS, List.getElem?_eq_getElem hi⟩, Pv (i + 1), fun σ' H' hp' => ⟨m - 1, by omega, hp', by omega⟩, fun v H' ⟨T, x, ev, hT, eH, hx⟩ => ?_⟩
    subst ev
    subst eH
    exact st i x σ H T (hx xs hS) hp hT
  · obtain rfl : i = xs.length := by omega
    exact .inl ⟨⟨xs, hS, rfl⟩, e σ H hp⟩
end L2

namespace L2
open PySem PySem.Spec PyProof.Rows
theorem passAt0 {CX : CXT} {X : Cx} {E : XK} (h : Passes CX X E) (σ : St) : PassesAt CX X σ E := fun pins H s e s' I q => h pins σ H s e s' I q
theorem vals_app {vs zs : List V} {us ws : List Value} (h1 : Vals vs us) (h2 : Vals zs ws) : Vals (vs ++ zs) (us ++ ws) := by
  induction h1 with
  | nil => exact h2
  | cons r _ ih => exact .cons r ih
/-! ## webs -/
/-- a row: a question and two or three targets -/
def RowOk (i n : Nat) (e : Int) (row : List Int) : Prop := ∃ q r, row = q :: r ∧ (r.length = 2 ∨ r.length = 3) ∧ 0 ≤ q ∧ q < 48 ∧ ∀ t ∈ r, -e ≤ t ∧ t < n ∧ ¬ (0 ≤ t ∧ t ≤ i)
/-- nothing is asked again behind a node: A i holds the questions that may be asked from node i on -/
def Cert (rows : List (List Int)) : Prop := ∃ A : Nat → Int → Prop, ∀ i q r, rows[i]? = some (q :: r) → A i q ∧ ∀ t ∈ r, 0 ≤ t → ¬ A t.toNat q ∧ ∀ z, A t.toNat z → A i z
structure GoodW (rows : List (List Int)) (e o : Int) : Prop where
  e1 : 1 ≤ e
  e2 : e ≤ 60
  len : rows.length ≤ 400
  row : ∀ i row, rows[i]? = some row → RowOk i rows.length e row
  o1 : -e ≤ o
  o2 : o < rows.length
  cert : Cert rows
/-- the rows stand as tuples at as -/
def RowsAt (H : Hp) (as : List Addr) (rows : List (List Int)) : Prop := as.length = rows.length ∧ ∀ (i : Nat) a row, as[i]? = some a → rows[i]? = some row → H a = some (.tup (row.map V.int))
theorem RowsAt.same {H H' : Hp} {as : List Addr} {rows : List (List Int)} (e : Same H H') (h : RowsAt H as rows) : RowsAt H' as rows := ⟨h.1, fun i a row x y => e _ _ (h.2 i a row x y)⟩
theorem RowsAt.gd {H H' : Hp} {as : List Addr} {rows : List (List Int)} (e : Gd H H') (h : RowsAt H as rows) : RowsAt H' as rows := ⟨h.1, fun i a row x y => e.1 _ _ (np_tup _) (h.2 i a row x y)⟩
def WebAt (C : Addr) (H : Hp) (x : Addr) (rows : List (List Int)) (e o : Int) : Prop := ∃ dx nt as, H x = some (.ins C dx [("nodes", .ref nt), ("ends", .int e), ("start", .int o)]) ∧ H nt = some (.tup (as.map V.ref)) ∧ RowsAt H as rows
theorem WebAt.same {C : Addr} {H H' : Hp} {x : Addr} {rows : List (List Int)} {e o : Int} (s : Same H H') (h : WebAt C H x rows e o) : WebAt C H' x rows e o := by
  obtain ⟨dx, nt, as, h1, h2, h3⟩ := h
  exact ⟨dx, nt, as, s _ _ h1, s _ _ h2, h3.same s⟩
theorem WebAt.gd {C : Addr} {H H' : Hp} {x : Addr} {rows : List (List Int)} {e o : Int} (s : Gd H H') (h : WebAt C H x rows e o) : WebAt C H' x rows e o := by
  obtain ⟨dx, nt, as, h1, h2, h3⟩ := h
  exact ⟨dx, nt, as, s.1 _ _ (np_ins _ _ _) h1, s.1 _ _ (np_tup _) h2, h3.gd s⟩
/-- the row at a place -/
theorem rows_get {H : Hp} {as : List Addr} {rows : List (List Int)} (h : RowsAt H as rows) {i : Nat} (hi : i < rows.length) : ∃ a row, as[i]? = some a ∧ rows[i]? = some row ∧ H a = some (.tup (row.map V.int)) := by
  have hi2 : i < as.length := by rw [h.1]; exact hi
  exact ⟨as[i], rows[i], List.getElem?_eq_getElem hi2, List.getElem?_eq_getElem hi, h.2 i _ _ (List.getElem?_eq_getElem hi2) (List.getElem?_eq_getElem hi)⟩
/-! masks -/
def natV (m : Nat) : V := .int (m : Int)
theorem and_bit {b q : Nat} (h : b.testBit q = false) : Builtin.bitAnd (b : Int) ((2 ^ q : Nat) : Int) = 0 := by
  rw [PyProof.Rows.bitAnd_pp (Int.natCast_nonneg _) (Int.natCast_nonneg _), Int.toNat_natCast, Int.toNat_natCast]
  have : b &&& 2 ^ q = 0 := Nat.eq_of_testBit_eq fun i => by
    rw [Nat.testBit_and, Nat.testBit_two_pow, Nat.zero_testBit]
    by_cases e : q = i
    · subst e; rw [h]; rfl
    · rw [decide_eq_false e, Bool.and_false]
  rw [this]
  rfl
theorem or_nat (b m : Nat) : Builtin.bitOr (b : Int) (m : Int) = ((b ||| m : Nat) : Int) := by
  rw [Bits.bitOr_pp (Int.natCast_nonneg _) (Int.natCast_nonneg _), Int.toNat_natCast, Int.toNat_natCast]
theorem get_natV {l : List Nat} {i m : Nat} (h : l[i]? = some m) : (l.map natV)[i]? = some (.int (m : Int)) := by
  rw [List.getElem?_map, h]
  rfl
def MaskOk (A : Nat → Int → Prop) (j m : Nat) : Prop := ∀ z : Nat, m.testBit z = true → A j (z : Int)
def spTwice : Sp := fun vs H Q _ => ∃ (nt : Addr) (as : List Addr) (rows : List (List Int)) (e : Int), vs = [.ref nt] ∧ H nt = some (.tup (as.map V.ref)) ∧ RowsAt H as rows ∧ rows.length ≤ 400 ∧ (∀ i row, rows[i]? = some row → RowOk i rows.length e row) ∧ Cert rows ∧ ∀ H', Same H H' → Q .non H'
def spIn (C : Addr) : Sp := fun vs H Q _ => ∃ (x : Addr) (dx : Addr) (fs : List (Str × V)) (nt : Addr) (xs : List V) (e z : Int), vs = [.ref x, .int z] ∧ H x = some (.ins C dx fs) ∧ fs.lookup ("ends" : Str) = some (.int e) ∧ fs.lookup ("nodes" : Str) = some (.ref nt) ∧ H nt = some (.tup xs) ∧ Q (.bl (decide (-e ≤ z ∧ z < (xs.length : Nat)))) H
def spStand (C : Addr) : Sp := fun vs H Q _ => ∃ (x dx nt nd : Addr) (fs : List (Str × V)) (xs : List V) (e : Int) (k : Nat) (row : List Int), vs = [.ref x, .int k, .ref nd] ∧ H x = some (.ins C dx fs) ∧ fs.lookup ("ends" : Str) = some (.int e) ∧ fs.lookup ("nodes" : Str) = some (.ref nt) ∧ H nt = some (.tup xs) ∧ H nd = some (.tup (row.map V.int)) ∧ RowOk k xs.length e row ∧ ∀ H', Same H H' → Q (.bl true) H'
def spLenW (C : Addr) : Sp := fun vs H Q _ => ∃ (x dx nt : Addr) (fs : List (Str × V)) (xs : List V), vs = [.ref x] ∧ H x = some (.ins C dx fs) ∧ fs.lookup ("nodes" : Str) = some (.ref nt) ∧ H nt = some (.tup xs) ∧ Q (.int (xs.length : Nat)) H
def spFirst (C : Addr) : Sp := fun vs H Q _ => ∃ (x dx nt : Addr) (fs : List (Str × V)) (xs : List V), vs = [.ref x] ∧ H x = some (.ins C dx fs) ∧ fs.lookup ("nodes" : Str) = some (.ref nt) ∧ H nt = some (.tup xs) ∧ Q (.int (if xs.isEmpty then -1 else 0)) H
theorem at_tup {l : List V} {j : Nat} {v : V} (h : l[j]? = some v) : atI l (j : Int) = some v := atI_nat h
theorem cut_row (q : Int) (r : List Int) : cutV ((q :: r).map V.int) (some 1) none = r.map V.int := by
  unfold cutV HT.sIx
  simp only [List.length_map, List.length_cons]
  rw [if_neg (by decide)]
  show List.take (r.length + 1 - min 1 (r.length + 1)) (List.drop (min 1 (r.length + 1)) (V.int q :: r.map V.int)) = _
  rw [Nat.min_eq_left (Nat.succ_le_succ (Nat.zero_le _))]
  show List.take (r.length + 1 - 1) (r.map V.int) = _
  exact List.take_of_length_le (by rw [List.length_map]; omega)
/-- node[1:] of a row -/
theorem rest_row {K : PySem.W.Frag} {H : Hp} {a : Addr} {q : Int} {r : List Int} {Q : VK} (h : H a = some (.tup ((q :: r).map V.int))) (k : ∀ p, H p = none → Q (.ref p) (upd H p (.tup (r.map V.int)))) : rSlA K (.ref a) (some 1) none H Q := by
  refine ⟨a, _, rfl, tup_of h, fun e => ?_, fun _ p np => ?_⟩
  · exfalso
    have e := e.1
    unfold HT.sIx at e
    dsimp only at e
    rw [if_neg (by decide), List.map_cons, List.length_cons] at e
    have : min (1 : Int).toNat ((r.map V.int).length + 1) = 1 := Nat.min_eq_left (Nat.succ_le_succ (Nat.zero_le _))
    rw [this] at e
    exact absurd e (by decide)
  · have ec : cutV ((q :: r).map V.int) (some 1) none = r.map V.int := by
      rw [cut_row]
    rw [ec]
    exact k p np
/-- a row as it is passed: a tuple or a list -/
def RowIn (H : Hp) (a : Addr) (row : List Int) : Prop := H a = some (.tup (row.map V.int)) ∨ H a = some (.lst (row.map V.int))
theorem RowIn.same {H H' : Hp} {a : Addr} {row : List Int} (e : Same H H') (h : RowIn H a row) : RowIn H' a row := h.elim (fun h => .inl (e _ _ h)) fun h => .inr (e _ _ h)
def StartV (rows : List (List Int)) (o : Int) (v : V) : Prop := v = .int o ∨ (v = .non ∧ o = if rows.isEmpty then -1 else 0)
def spWebInit (K : PySem.W.Frag) (C : Addr) : Sp := fun vs H Q _ => ∃ (x dx q : Addr) (as : List Addr) (rows : List (List Int)) (e o : Int) (v : V), vs = [.ref x, .ref q, .int e, v] ∧ H x = some (.ins C dx []) ∧ SqL K H q (as.map V.ref) ∧ as.length = rows.length ∧
  (∀ (i : Nat) a row, as[i]? = some a → rows[i]? = some row → RowIn H a row) ∧ GoodW rows e o ∧ StartV rows o v ∧
  ∀ H', WebAt C H' x rows e o → (∀ b u, b ≠ x → H b = some u → H' b = some u) → Q .non H'
theorem put1 {v : V} : putF ("nodes" : Str) v [] = [(("nodes" : Str), v)] := by rfl
theorem put2 {u v : V} : putF ("ends" : Str) v [(("nodes" : Str), u)] = [(("nodes" : Str), u), (("ends" : Str), v)] := by rfl
theorem put3 {u v z : V} : putF ("start" : Str) v [(("nodes" : Str), u), (("ends" : Str), z)] = [(("nodes" : Str), u), (("ends" : Str), z), (("start" : Str), v)] := by rfl
/-! ## drawn webs -/
def spNames (K : PySem.W.Frag) : Sp := fun vs H Q _ => ∃ (p : Addr) (c : Nat) (m : Int), vs = [.ref p, .int m] ∧ PoolOk K p c H ∧ c + 100 < LIM ∧ 0 < m ∧ m ≤ 48 ∧
  ∀ H' D l, H D = none → Gd H H' → PoolOk K p (c + 100) H' → H' D = some (.lst (l.map V.int)) → Qn l → l ≠ [] → (l.length : Int) ≤ m → l.Nodup → Q (.ref D) H'
def TgtOk (e cnt idx t : Int) : Prop := -e ≤ t ∧ t < cnt ∧ ¬ (0 ≤ t ∧ t ≤ idx)
def spTarget (K : PySem.W.Frag) : Sp := fun vs H Q _ => ∃ (p : Addr) (c : Nat) (idx cnt e : Int), vs = [.ref p, .int idx, .int cnt, .int e] ∧ PoolOk K p c H ∧ c + 10 < LIM ∧ 0 ≤ idx ∧ idx < cnt ∧ cnt ≤ 400 ∧ 1 ≤ e ∧ e ≤ 60 ∧
  ∀ H' t, Gd H H' → PoolOk K p (c + 3) H' → TgtOk e cnt idx t → Q (.int t) H'
/-- one drawn node: its question is in its own list b, in none of the lists of its targets, and b holds these -/
def NdOk (e : Int) (N g : Nat) (nms row b : List Int) (bels : List (List Int)) : Prop := ∃ q r, row = q :: r ∧ (r.length = 2 ∨ r.length = 3) ∧ q ∈ nms ∧ q ∈ b ∧ ∀ t ∈ r, TgtOk e N g t ∧ (0 ≤ t → ∃ b', bels[(t - g - 1).toNat]? = some b' ∧ q ∉ b' ∧ ∀ z ∈ b', z ∈ b)
def GoodS (e : Int) (N : Nat) (nms : List Int) : List (List Int) → List (List Int) → Prop
  | [], [] => True
  | row :: rows, b :: bels => GoodS e N nms rows bels ∧ NdOk e N (N - (rows.length + 1)) nms row b bels
  | [], _ :: _ => False
  | _ :: _, [] => False
theorem GoodS.len {e : Int} {N : Nat} {nms : List Int} : ∀ {rows bels : List (List Int)}, GoodS e N nms rows bels → bels.length = rows.length
  | [], [], _ => rfl
  | _ :: _, _ :: _, h => by rw [List.length_cons, List.length_cons, GoodS.len h.1]
  | [], _ :: _, h => h.elim
  | _ :: _, [], h => h.elim
/-- by places: base is what stands before these rows -/
theorem GoodS.at {e : Int} {N : Nat} {nms : List Int} : ∀ {rows bels : List (List Int)} {base : Nat}, GoodS e N nms rows bels → base + rows.length = N → ∀ (j : Nat) row, rows[j]? = some row →
    ∃ q r b, row = q :: r ∧ (r.length = 2 ∨ r.length = 3) ∧ q ∈ nms ∧ bels[j]? = some b ∧ q ∈ b ∧ ∀ t ∈ r, TgtOk e N (base + j : Nat) t ∧ (0 ≤ t → ∃ b', bels[t.toNat - base]? = some b' ∧ q ∉ b' ∧ ∀ z ∈ b', z ∈ b)
  | [], [], _, _, _, j, row, hj => by simp at hj
  | [], _ :: _, _, h, _, _, _, _ => h.elim
  | _ :: _, [], _, h, _, _, _, _ => h.elim
  | row0 :: rows, b0 :: bels, base, h, hb, j, row, hj => by
    rw [List.length_cons] at hb
    cases j with
    | zero =>
      obtain rfl : row0 = row := Option.some.inj hj
      obtain ⟨q, r, e1, hl, hq, hqb, ht⟩ := h.2
      have eg : N - (rows.length + 1) = base := by omega
      rw [eg] at ht
      refine ⟨q, r, b0, e1, hl, hq, rfl, hqb, fun t m => ?_⟩
      obtain ⟨h1, h2⟩ := ht t m
      refine ⟨by simpa using h1, fun t0 => ?_⟩
      obtain ⟨b', hb', h3⟩ := h2 t0
      have := h1.2.2
      have hlt : (base : Int) < t := by
        refine Int.not_le.mp fun hle => this ⟨t0, hle⟩
      refine ⟨b', ?_, h3⟩
      have : t.toNat - base = (t - base - 1).toNat + 1 := by omega
      rw [this, List.getElem?_cons_succ]
      exact hb'
    | succ j =>
      obtain ⟨q, r, b, e1, hl, hq, hbj, hqb, ht⟩ := GoodS.at (base := base + 1) h.1 (by omega) j row hj
      refine ⟨q, r, b, e1, hl, hq, hbj, hqb, fun t m => ?_⟩
      obtain ⟨h1, h2⟩ := ht t m
      refine ⟨by rw [show base + (j + 1) = base + 1 + j by omega]; exact h1, fun t0 => ?_⟩
      obtain ⟨b', hb', h3⟩ := h2 t0
      have := h1.2.2
      have hlt : ((base + 1 + j : Nat) : Int) < t := by
        refine Int.not_le.mp fun hle => this ⟨t0, hle⟩
      refine ⟨b', ?_, h3⟩
      have : t.toNat - base = (t.toNat - (base + 1)) + 1 := by omega
      rw [this, List.getElem?_cons_succ]
      exact hb'
theorem GoodS.good {e o : Int} {nms : List Int} {rows bels : List (List Int)} (h : GoodS e rows.length nms rows bels) (hn : Qn nms) (e1 : 1 ≤ e) (e2 : e ≤ 60) (hl : rows.length ≤ 400) (o1 : -e ≤ o) (o2 : o < rows.length) : GoodW rows e o := by
  refine ⟨e1, e2, hl, fun i row hi => ?_, o1, o2, fun g z => ∃ b, bels[g]? = some b ∧ z ∈ b, fun i q r hi => ?_⟩
  · obtain ⟨q, r, b, er, hr, hq, _, _, ht⟩ := h.at (base := 0) (Nat.zero_add _) i row hi
    refine ⟨q, r, er, hr, (hn q hq).1, (hn q hq).2, fun t m => ?_⟩
    have := (ht t m).1
    rw [Nat.zero_add] at this
    exact this
  · obtain ⟨q', r', b, er, hr, hq, hb, hqb, ht⟩ := h.at (base := 0) (Nat.zero_add _) i _ hi
    obtain ⟨rfl, rfl⟩ := List.cons.inj er
    refine ⟨⟨b, hb, hqb⟩, fun t m t0 => ?_⟩
    obtain ⟨b', hb', h1, h2⟩ := (ht t m).2 t0
    rw [Nat.sub_zero] at hb'
    refine ⟨fun ⟨b2, hb2, hz⟩ => ?_, fun z ⟨b2, hb2, hz⟩ => ?_⟩
    · rw [hb'] at hb2
      obtain rfl := Option.some.inj hb2
      exact h1 hz
    · rw [hb'] at hb2
      obtain rfl := Option.some.inj hb2
      exact ⟨b, hb, h2 z hz⟩
def spNodes (K : PySem.W.Frag) : Sp := fun vs H Q _ => ∃ (p nm : Addr) (c N : Nat) (e : Int) (sk : Bool) (nms : List Int), vs = [.ref p, .int (N : Int), .int e, .ref nm, .bl sk] ∧ PoolOk K p c H ∧ c + 1000 < LIM ∧ N ≤ 13 ∧ 1 ≤ e ∧ e ≤ 60 ∧
  H nm = some (.lst (nms.map V.int)) ∧ nms ≠ [] ∧ nms.length ≤ 48 ∧
  ∀ H' D as rows bels, H D = none → Gd H H' → PoolOk K p (c + 1000) H' → H' D = some (.lst (as.map V.ref)) → RowsAt H' as rows → rows.length = N → GoodS e N nms rows bels → Q (.ref D) H'
theorem Gd.but {H0 H H' : Hp} {D : Addr} (g : Gd H0 H) (n : H0 D = none) (k : ∀ b o, b ≠ D → H b = some o → H' b = some o) : Gd H0 H' :=
  ⟨fun b o np h => k b o (ne_of_none h n) (g.1 b o np h), fun b o pl h => let ⟨o', p', h'⟩ := g.2 b o pl h; ⟨o', p', k b o' (ne_of_none h n) h'⟩⟩
theorem PoolOk.but {K : PySem.W.Frag} {p D : Addr} {c : Nat} {H H' : Hp} {ys : List V} (h : PoolOk K p c H) (hD : H D = some (.lst ys)) (n : ¬ isPool (.lst ys)) (k : ∀ b o, b ≠ D → H b = some o → H' b = some o) : PoolOk K p c H' := by
  obtain ⟨sa, ns, c', i, b, s, h1, h2, h3⟩ := h
  refine ⟨sa, ns, c', i, b, s, ?_, k _ _ (fun e => ?_) h2, h3⟩
  · rcases h1 with ⟨o, h1⟩ | h1
    · exact .inl ⟨o, k _ _ (ne_of h1 hD (by intro z; cases z)) h1⟩
    · exact .inr h1
  · subst e
    rw [h2] at hD
    injection hD with hD
    exact n ⟨sa, c', i, b, s, hD.symm⟩
theorem at_int {l : List Int} {r : Int} (h0 : 0 ≤ r) (h1 : r < (l.length : Int)) : ∃ z, z ∈ l ∧ atI (l.map V.int) r = some (.int z) := by
  obtain ⟨j, rfl⟩ : ∃ j : Nat, r = (j : Int) := ⟨r.toNat, by omega⟩
  have hj : j < l.length := by omega
  exact ⟨l[j], List.getElem_mem hj, atI_nat (by rw [List.getElem?_map, List.getElem?_eq_getElem hj]; rfl)⟩
/-! ## web[i] in a try body -/
section
variable {X : Cx} {CX : CXT} {n : Nat} {f C : Addr} {fd : FuncData} {ps : List Str} {sp : Sp} {pins : List (Addr × Obj)} {σ : St} {H : Hp} {s : Shared}
theorem run_ownS {E : XK} {A : Around} {vs : List V} {us : List Value} {Q : VK} (F : FnOk X.prog X.w X.K X.mg X.base CX n f fd ps sp) (sb : Sub X n A) (hb : Binds X.K fd ps []) (hx : PassesAt CX X σ E)
    (I : Inv X pins σ H s) (r : Vals vs us) (h : sp vs H Q E) : wpAny (model X.prog X.w) A (call (.ref f) us) (EP X pins σ Q) X.xe s := by
  have e0 : Env0 X.prog X.w X.K X.mg X.base A X.stack s H := by
    have e := I.env0
    exact ⟨by rw [sb.fr]; exact e.frames, e.mod, e.bs, e.bsz, e.funs, e.frf, e.hok, e.bare⟩
  have hl := F.len _ _ _ _ h
  have hl2 : us.length = ps.length := by rw [← hl, r.length]
  refine wpAny_call (codeAny_mono (F.run A X.stack s H ⟨us, []⟩ us vs Q E sb.room e0 (by
    have := hb s us I.kIn (by simpa using hl2)
    simpa using this) r h) fun r' s' hq => ?_)
  cases r' with
  | error e => exact hx pins H s e s' I hq
  | ok fl =>
    cases fl with
    | ret w => exact I.after hq
    | next => exact False.elim hq
    | brk => exact False.elim hq
    | cont => exact False.elim hq
def tOwnIxS (C : Addr) (sp : Sp) (E : St → XK) (ta tb : TE) : TE := fun σ H Q => ta σ H fun x H1 => tb σ H1 fun y H2 => rOwnIx C sp (E σ) x y H2 Q
theorem pe_ownIxS {E : St → XK} {a b : Expr} {ta tb : TE} {pos : Pos} (F : FnOk X.prog X.w X.K X.mg X.base CX n f fd ps sp) (hr : Room (n + 1) X.A) (hs : PySem.W.findIn X.K (.ref C) "__getitem__" = some (some (.ref f))) (hfn : PySem.W.fnIn X.K f = true) (hf : PySem.W.isFn X.K (.ref f) = true)
    (hb : Binds X.K fd ps []) (hx : ∀ σ, PassesAt CX X σ (E σ)) (ha : PE X a ta) (hb' : PE X b tb)
    (hsl : ∀ x i, subscripted b true (.ref x) i = runValue (.builtin "lifetime.subscript" ⟨[.ref x, i], []⟩) := by intro _ _; with_unfolding_all rfl) : PE X (.Subscript a b pos) (tOwnIxS C sp E ta tb) := by
  refine ⟨fun pins s σ H Q I h => ?_⟩
  refine Subscript_ (binT ha hb' I h fun v u s2 x y H2 I2 rx ry q => ?_)
  obtain ⟨c, dx, fs, rfl, hc, q⟩ := q
  cases rx
  obtain ⟨mB, J', _⟩ := ins_get I2.hok hc
  obtain ⟨od', J', _⟩ := J'.look
  obtain ⟨m, hF⟩ := I2.fr
  have sb : Sub X (n + 1) X.A := ⟨hr, rfl⟩
  exact PySem.W.sub_K hF I2.ok.mod.kin J' hs hfn hf (run_ownS (vs := [.ref c, y]) F sb.in1 hb (hx σ) I2 (.cons rfl (.cons ry .nil)) q) (hsl _ _)
end
/-- web[at] -/
def spItem (C CN : Addr) : Sp := fun vs H Q E => ∃ (x : Addr) (rows : List (List Int)) (e o z : Int), vs = [.ref x, .int z] ∧ WebAt C H x rows e o ∧ Bd z ∧
  ((0 ≤ z ∧ z < rows.length) → ∀ t row, rows[z.toNat]? = some row → H t = some (.tup (row.map V.int)) → Q (.ref t) H) ∧
  (¬ (0 ≤ z ∧ z < rows.length) → ∀ d H', H d = none → Same H H' → H' d = some (.xd [("index", .int z)]) → E (.ref CN) (some d) H')
/-! equality of tuples of tuples -/
def rowD (r : List Int) : PyData := .tuple (r.map PyData.int)
theorem dpAll_rows {K : PySem.W.Frag} {H : Hp} : ∀ {as : List Addr} {rows : List (List Int)}, RowsAt H as rows → DpAll K H (as.map V.ref) (rows.map rowD)
  | [], [], _ => .nil
  | [], _ :: _, h => by cases h.1
  | _ :: _, [], h => by cases h.1
  | a :: as, r :: rows, h => .cons (.tup (tup_of (h.2 0 a r rfl rfl)) (dpAll_ints r)) (dpAll_rows ⟨by have := h.1; simpa using this, fun j b row h1 h2 => h.2 (j + 1) b row h1 h2⟩)
theorem canLay_rows : ∀ rows : List (List Int), PyData.canLayAll0 (rows.map rowD) = true
  | [] => by rw [List.map_nil, PyData.canLayAll0]
  | n :: r => by
    rw [List.map_cons, PyData.canLayAll0, canLay_rows r]
    simp [rowD, PyData.canLay0, canLay_ints]
theorem depth_rows : ∀ rows : List (List Int), PyData.depthAll (rows.map rowD) ≤ 1
  | [] => by rw [List.map_nil, PyData.depthAll]; decide
  | n :: r => by
    have := depth_rows r
    rw [List.map_cons, PyData.depthAll]
    simp [rowD, PyData.depth, depth_ints]
    omega
theorem shR (rows : List (List Int)) : SeqAt.shaped (.tuple (rows.map rowD)) = true := by
  have := depth_rows rows
  simp [SeqAt.shaped, PyData.canLay0, canLay_rows, PyData.depth]
  omega
theorem ev_rows : ∀ rows rows2 : List (List Int), PyData.eqvAll (rows.map rowD) (rows2.map rowD) = decide (rows = rows2)
  | [], [] => by rw [List.map_nil, PyData.eqvAll]; rfl
  | [], _ :: _ => by rw [List.map_nil, List.map_cons, PyData.eqvAll]; rfl
  | _ :: _, [] => by rw [List.map_nil, List.map_cons, PyData.eqvAll]; rfl
  | a :: r, b :: s => by
    rw [List.map_cons, List.map_cons, PyData.eqvAll, ev_rows r s]
    unfold rowD
    rw [evT, Bool.eq_iff_iff, Bool.and_eq_true, decide_eq_true_eq, decide_eq_true_eq, decide_eq_true_eq, List.cons.injEq]
theorem eqD_rows {K : PySem.W.Frag} {H : Hp} {a b : Addr} {as bs : List Addr} {rows rows2 : List (List Int)} {Q : VK} (h1 : H a = some (.tup (as.map V.ref))) (h2 : H b = some (.tup (bs.map V.ref))) (r1 : RowsAt H as rows) (r2 : RowsAt H bs rows2) (q : Q (.bl (decide (rows = rows2))) H) : rEqD K (.ref a) (.ref b) H Q :=
  ⟨_, _, .tup (tup_of h1) (dpAll_rows r1), .tup (tup_of h2) (dpAll_rows r2), shR rows, shR rows2, by rw [PyData.eqv, ev_rows]; exact q⟩
theorem neD_rows {K : PySem.W.Frag} {H : Hp} {a b : Addr} {as bs : List Addr} {rows rows2 : List (List Int)} {Q : VK} (h1 : H a = some (.tup (as.map V.ref))) (h2 : H b = some (.tup (bs.map V.ref))) (r1 : RowsAt H as rows) (r2 : RowsAt H bs rows2) (q : Q (.bl (!decide (rows = rows2))) H) : rNeD K (.ref a) (.ref b) H Q :=
  ⟨_, _, .tup (tup_of h1) (dpAll_rows r1), .tup (tup_of h2) (dpAll_rows r2), shR rows, shR rows2, by rw [PyData.eqv, ev_rows]; exact q⟩
/-- web == other -/
def spEqW (C : Addr) : Sp := fun vs H Q _ => ∃ (x y : Addr) (rows rows2 : List (List Int)) (e o e2 o2 : Int), vs = [.ref x, .ref y] ∧ WebAt C H x rows e o ∧ WebAt C H y rows2 e2 o2 ∧ Q (.bl (decide (rows = rows2 ∧ e = e2 ∧ o = o2))) H
theorem neD_bad {K : PySem.W.Frag} {H : Hp} {x y : Addr} {s : Str} {z : Int} {Q : VK} (h1 : SqT K H x [.str s, .int z]) (h2 : SqT K H y [.str s, .int z]) (q : Q (.bl false) H) (hs : PyData.strOk s = true := by decide +kernel) : rNeD K (.ref x) (.ref y) H Q := by
  refine ⟨_, _, .tup h1 (.cons (.str s) (.cons (.int z) .nil)), .tup h2 (.cons (.str s) (.cons (.int z) .nil)), ?_, ?_, ?_⟩
  · simp [SeqAt.shaped, PyData.canLay0, PyData.canLayAll0, PyData.depth, PyData.depthAll, hs]
  · simp [SeqAt.shaped, PyData.canLay0, PyData.canLayAll0, PyData.depth, PyData.depthAll, hs]
  · rw [show PyData.eqv (.tuple [.str s, .int z]) (.tuple [.str s, .int z]) = true by simp [PyData.eqv, PyData.eqvAll]]
    exact q
def spSameW (C : Addr) : Sp := fun vs H Q _ => ∃ (x q : Addr) (as : List Addr) (rows : List (List Int)) (e o : Int), vs = [.ref x, .ref q, .int e, .int o] ∧ WebAt C H x rows e o ∧ H q = some (.lst (as.map V.ref)) ∧ RowsAt H as rows ∧ rows.length ≤ 400 ∧ 1 ≤ e ∧ e ≤ 60 ∧ ∀ H', Same H H' → Q (.bl true) H'
end L2

namespace L2
open PySem PySem.Spec PyProof.Rows
/-! ## webs with one row changed -/
theorem GoodW.more {rows : List (List Int)} {e o : Int} (h : GoodW rows e o) (he : e < 60) : GoodW rows (e + 1) o := by
  refine ⟨by have := h.e1; omega, by omega, h.len, fun i row hi => ?_, by have := h.o1; omega, h.o2, h.cert⟩
  obtain ⟨q, r, e1, h1, h2, h3, h4⟩ := h.row i row hi
  exact ⟨q, r, e1, h1, h2, h3, fun t m => by obtain ⟨x, y, z⟩ := h4 t m; exact ⟨by omega, y, z⟩⟩
theorem GoodW.from {rows : List (List Int)} {e o : Int} {o' : Int} (h : GoodW rows e o) (h1 : -e ≤ o') (h2 : o' < rows.length) : GoodW rows e o' := ⟨h.e1, h.e2, h.len, h.row, h1, h2, h.cert⟩
theorem GoodW.put {rows : List (List Int)} {e o : Int} {k : Nat} {q q' : Int} {r r' : List Int} (h : GoodW rows e o) (hk : rows[k]? = some (q :: r)) (hl : r'.length = 2 ∨ r'.length = 3) (q0 : 0 ≤ q') (q1 : q' < 48)
    (hq : q' = q ∨ ∀ (i : Nat) (z : Int) (s : List Int), rows[i]? = some (z :: s) → z ≠ q') (hr : ∀ t ∈ r', (0 ≤ t → t ∈ r) ∧ -e ≤ t) : GoodW (rows.set k (q' :: r')) e o := by
  obtain ⟨A, hA⟩ := h.cert
  have hkl : k < rows.length := (List.getElem?_eq_some_iff.mp hk).1
  have tok : ∀ t ∈ r', -e ≤ t ∧ t < (rows.length : Int) ∧ ¬ (0 ≤ t ∧ t ≤ k) := fun t m => by
    obtain ⟨h1, h2⟩ := hr t m
    by_cases t0 : 0 ≤ t
    · obtain ⟨q2, r2, e2, _, _, _, h3⟩ := h.row k _ hk
      obtain ⟨rfl, rfl⟩ := List.cons.inj e2
      exact h3 t (h1 t0)
    · exact ⟨h2, by omega, by omega⟩
  refine ⟨h.e1, h.e2, by rw [List.length_set]; exact h.len, fun i row hi => ?_, h.o1, by rw [List.length_set]; exact h.o2, ?_⟩
  · rw [List.length_set]
    by_cases hik : k = i
    · subst hik
      rw [List.getElem?_set_self hkl] at hi
      obtain rfl := Option.some.inj hi
      exact ⟨q', r', rfl, hl, q0, q1, tok⟩
    · rw [List.getElem?_set_ne hik] at hi
      exact h.row i row hi
  · rcases hq with rfl | hq
    · refine ⟨A, fun i z s hi => ?_⟩
      by_cases hik : k = i
      · subst hik
        rw [List.getElem?_set_self hkl] at hi
        obtain ⟨rfl, rfl⟩ := List.cons.inj (Option.some.inj hi)
        obtain ⟨a1, a2⟩ := hA k _ _ hk
        exact ⟨a1, fun t m t0 => a2 t ((hr t m).1 t0) t0⟩
      · rw [List.getElem?_set_ne hik] at hi
        exact hA i z s hi
    · refine ⟨fun i z => (A i z ∧ z ≠ q') ∨ (z = q' ∧ i ≤ k), fun i z s hi => ?_⟩
      by_cases hik : k = i
      · subst hik
        rw [List.getElem?_set_self hkl] at hi
        obtain ⟨rfl, rfl⟩ := List.cons.inj (Option.some.inj hi)
        refine ⟨.inr ⟨rfl, Nat.le_refl _⟩, fun t m t0 => ?_⟩
        have ht := (tok t m).2.2
        have tk : k < t.toNat := by omega
        refine ⟨fun hh => ?_, fun y hy => ?_⟩
        · rcases hh with ⟨_, h2⟩ | ⟨_, h2⟩
          · exact h2 rfl
          · omega
        · rcases hy with ⟨h1, h2⟩ | ⟨_, h2⟩
          · exact .inl ⟨((hA k _ _ hk).2 t ((hr t m).1 t0) t0).2 y h1, h2⟩
          · omega
      · rw [List.getElem?_set_ne hik] at hi
        have zq := hq i z s hi
        obtain ⟨a1, a2⟩ := hA i z s hi
        refine ⟨.inl ⟨a1, zq⟩, fun t m t0 => ?_⟩
        obtain ⟨b1, b2⟩ := a2 t m t0
        have ht : ¬ (0 ≤ t ∧ t ≤ i) := by
          obtain ⟨q2, r2, e2, _, _, _, h3⟩ := h.row i _ hi
          obtain ⟨rfl, rfl⟩ := List.cons.inj e2
          exact (h3 t m).2.2
        refine ⟨fun hh => ?_, fun y hy => ?_⟩
        · rcases hh with ⟨h1, _⟩ | ⟨h1, _⟩
          · exact b1 h1
          · exact zq h1
        · rcases hy with ⟨h1, h2⟩ | ⟨h1, h2⟩
          · exact .inl ⟨b2 y h1, h2⟩
          · exact .inr ⟨h1, by omega⟩
theorem GoodW.snoc {rows : List (List Int)} {e o q : Int} (h : GoodW rows e o) (hl : rows.length < 400) (q0 : 0 ≤ q) (q1 : q < 48) : GoodW (rows ++ [[q, -1, -1]]) e o := by
  obtain ⟨A, hA⟩ := h.cert
  have e1 := h.e1
  have ll : (rows ++ [[q, -1, -1]]).length = rows.length + 1 := by rw [List.length_append]; rfl
  have cs : ∀ {i : Nat} {row : List Int}, (rows ++ [[q, -1, -1]])[i]? = some row → (i < rows.length ∧ rows[i]? = some row) ∨ (i = rows.length ∧ row = [q, -1, -1]) := fun {i row} hi => by
    by_cases hj : i < rows.length
    · rw [List.getElem?_append_left hj] at hi
      exact .inl ⟨hj, hi⟩
    · rw [List.getElem?_append_right (by omega)] at hi
      have h0 : i - rows.length = 0 := by
        have := (List.getElem?_eq_some_iff.mp hi).1
        rw [List.length_singleton] at this
        omega
      rw [h0] at hi
      exact .inr ⟨by omega, (Option.some.inj hi).symm⟩
  refine ⟨e1, h.e2, by rw [ll]; omega, fun i row hi => ?_, h.o1, by have := h.o2; rw [ll]; omega, fun i z => if i < rows.length then A i z else z = q, fun i z s hi => ?_⟩
  · rw [ll]
    rcases cs hi with ⟨_, hi⟩ | ⟨rfl, rfl⟩
    · obtain ⟨q2, r2, e2, h1, h2, h3, h4⟩ := h.row i row hi
      exact ⟨q2, r2, e2, h1, h2, h3, fun t m => by obtain ⟨x, y, z⟩ := h4 t m; exact ⟨x, by omega, z⟩⟩
    · exact ⟨q, [-1, -1], rfl, .inl rfl, q0, q1, fun t m => by
        have : t = -1 := by simpa using m
        omega⟩
  · show (if i < rows.length then A i z else z = q) ∧ ∀ t, t ∈ s → 0 ≤ t → ¬ (if t.toNat < rows.length then A t.toNat z else z = q) ∧ ∀ y, (if t.toNat < rows.length then A t.toNat y else y = q) → (if i < rows.length then A i y else y = q)
    rcases cs hi with ⟨hil, hi⟩ | ⟨rfl, hi2⟩
    · obtain ⟨a1, a2⟩ := hA i z s hi
      simp only [if_pos hil]
      refine ⟨a1, fun t m t0 => ?_⟩
      have ht : t < rows.length := by
        obtain ⟨q2, r2, e2, _, _, _, h3⟩ := h.row i _ hi
        obtain ⟨rfl, rfl⟩ := List.cons.inj e2
        exact (h3 t m).2.1
      simp only [if_pos (show t.toNat < rows.length by omega)]
      exact a2 t m t0
    · obtain ⟨rfl, rfl⟩ := List.cons.inj hi2
      simp only [if_neg (Nat.lt_irrefl _)]
      refine ⟨trivial, fun t m t0 => ?_⟩
      have : t = -1 := by simpa using m
      omega
theorem set_eq_iff {rows : List (List Int)} {k : Nat} {row row' : List Int} (hk : rows[k]? = some row) : rows = rows.set k row' ↔ row' = row := by
  have hkl : k < rows.length := (List.getElem?_eq_some_iff.mp hk).1
  constructor
  · intro h
    have h2 : (rows.set k row')[k]? = some row' := List.getElem?_set_self hkl
    rw [← h, hk] at h2
    exact (Option.some.inj h2).symm
  · rintro rfl
    refine List.ext_getElem? fun i => ?_
    by_cases hik : k = i
    · subst hik; rw [List.getElem?_set_self hkl, hk]
    · rw [List.getElem?_set_ne hik]
theorem cut_set {α : Type} (l : List α) {k : Nat} (hk : k < l.length) (x : α) : l.take k ++ [x] ++ l.drop (k + 1) = l.set k x := by
  rw [List.set_eq_take_append_cons_drop, if_pos hk, List.append_assoc]
  rfl
/-- a comprehension within one: nothing free in it -/
theorem blkOk_any {N : List Str} {sc0 sc scope : Scope} {own : List (Str × Nat)} (h : blkC N sc0 scope own = true) (hf : (scope.names.all fun y => match y.2 with | NameKind.free => false | _ => true) = true) : BlkOk N sc scope own :=
  let b := blkOk_by h
  have hfree : ∀ y ∈ scope.names, y.2 = NameKind.free → List.lookup y.1 sc.names = some NameKind.cell ∨ List.lookup y.1 sc.names = some NameKind.free := fun y hy e => by
    have := List.all_eq_true.mp hf y hy
    rw [e] at this
    cases this
  ⟨b.kind, b.uniq, b.ix, hfree, b.own⟩
end L2

namespace L2
open PySem PySem.Spec PyProof.Rows
section
variable {X : Cx}
/-- range(n) as a value -/
theorem cr_range1 : CallR X (.type "range") (fun vs H Q => ∃ j, vs = [V.int j] ∧ ∀ p, H p = none → Q (.ref p) (upd H p (.rng 0 j))) := by
  intro pins s σ H xs us Q I r h
  obtain ⟨j, rfl, q⟩ := h
  cases r with
  | cons ra rr =>
    cases rr
    obtain ⟨t, rfl⟩ := ra
    refine call_range_1 ?_
    have hn : H s.heap.objs.size = none := I.hok.fresh (Nat.le_refl _)
    exact ⟨.ref s.heap.objs.size, upd H s.heap.objs.size (.rng 0 j), I.laid (fun b u e => Heap.get?_push_of_some _ e) (Nat.le_refl _) ⟨_, _, _, Heap.get?_push_size _ rfl⟩, rfl, q _ hn⟩
/-- going over a range that stands in H -/
def iRngO (tl : TE) : TI := fun σ H R => tl σ H fun x H1 => ∃ a lo hi, x = V.ref a ∧ H1 a = some (.rng lo hi) ∧ -(2 ^ 62) ≤ lo ∧ lo < 2 ^ 62 ∧ -(2 ^ 62) ≤ hi ∧ hi < 2 ^ 62 ∧ R (Itr lo (hi - lo).toNat) H1
theorem pi_rngO {tg l : Expr} {tl : TE} (hl : PE X l tl) : PI X tg l (iRngO tl) := by
  refine ⟨fun pins s σ H R I h => ?_⟩
  refine thn (hl.run pins s σ H _ I h) fun v s1 hh => ?_
  obtain ⟨x, H1, I1, r, a, lo, hi, rfl, ha, h1, h2, h3, h4, hR⟩ := hh
  cases r
  obtain ⟨t, u, v, ho⟩ := I1.hok _ _ ha
  have g0 : IsRange s1.heap a lo hi 1 t u v := ho
  refine wpAny_pyIter_range g0 (small_one h1 h2 h3 h4) ?_
  have n0 := rangeSize_one lo hi
  refine ⟨s1.heap.objs.size, [s1.heap.objs.size], _, Itr lo (hi - lo).toNat, H1, rfl, I1.kept (fun b o e => Heap.get?_push_of_some _ e), turn_range s1.heap.objs.size lo (hi - lo).toNat, ?_, fun b hb => ?_, hR⟩
  · have e : ((Builtin.Range.rangeSize lo hi 1 : Int)) = (((hi - lo).toNat : Nat) : Int) := by
      rw [rangeSize_one]
      split <;> omega
    show (s1.heap.push _).get? _ = _
    rw [Heap.get?_push_size _ rfl, e]
    simp
  · rw [List.mem_singleton.mp hb]
    exact I1.fpOk (Nat.le_refl _) (I1.hok.fresh (Nat.le_refl _))
end
end L2

namespace L2
open PySem PySem.Spec PyProof.Rows
/-! ## operators of an own object and a whole number -/
section
variable {X : Cx} {n : Nat} {CX : CXT} {C f : Addr} {fd : FuncData} {ps : List Str} {sp : Sp} {E : XK} {pins : List (Addr × Obj)} {σ : St} {H : Hp} {s : Shared}
def rOwnI (C : Addr) (sp : Sp) (E : XK) : R2 := fun x y H Q => ∃ a dx fs i, x = .ref a ∧ y = .int i ∧ H a = some (.ins C dx fs) ∧ sp [.ref a, .int i] H Q E
theorem op_ownI {op : Operator} {fo ro rc : Option Value} (F : FnOk X.prog X.w X.K X.mg X.base CX n f fd ps sp) (hr : Room n X.A) (hs : PySem.W.findIn X.K (.ref C) (PySem.dunder op.info.2) = some (some (.ref f))) (hf : PySem.W.isFn X.K (.ref f) = true)
    (hc : PySem.W.selfFirst X.K C = true) (hrr : PySem.W.findIn X.K (.ref C) (dunderR op.info.2) = some rc) (hp : rc = none ∨ ∃ g : Addr, rc = some (.ref g)) (h1 : PySem.W.findIn X.K (.type "int") (PySem.dunder op.info.2) = some fo) (h2 : PySem.W.findIn X.K (.type "int") (dunderR op.info.2) = some ro)
    (hsub : PySem.W.subIn X.K (.type "int") (.ref C) = some false) (hb : Binds X.K fd ps []) (hx : Passes CX X E) : OpR X (binaryOp op) (rOwnI C sp E) := by
  intro pins s σ H x y v u Q I rx ry h
  obtain ⟨a, dx, fs, i, rfl, rfl, ha, h⟩ := h
  cases rx
  obtain ⟨t, rfl⟩ := ry
  obtain ⟨mA, J, _⟩ := ins_get I.hok ha
  obtain ⟨od, J, _⟩ := J.look
  obtain ⟨m, hF⟩ := I.fr
  refine PySem.W.ksp_binT hF I.ok.mod.kin J rfl hc hs hf hrr hp h1 h2 hsub ?_
  exact thn (run_own (vs := [.ref a, .int i]) F ⟨hr, rfl⟩ hb hx I (.cons rfl (.cons ⟨t, rfl⟩ .nil)) h) fun u s' q => back_ep q
end
end L2
namespace PySem
open PySem PySem.Spec PyProof.Rows L2
/-- the whole number's own operator, asked about another thing -/
theorem meets_intBin {name : String} {f : Int → Int → Sem Fin} {i : Int} {t : Tok} {x : Addr} :
    Meets (Builtin.Int.intBinary name f (reflected := false) ⟨[.int i t, .ref x], []⟩) fun A R s => (∃ o, s.heap.get? x = some o ∧ ∀ j u, o.data ≠ .prim (.int j u)) ∧ R (.ok (.ret .notImplemented)) s := by
  intro prog w A R s ⟨⟨o, ho, hd⟩, hR⟩
  unfold Builtin.Int.intBinary
  refine wpAny_bind (wpAny_of_eq (a := ((Value.int i t, [Value.ref x]) : Value × List Value)) rfl ?_)
  refine wpAny_bind (wpAny_of_eq (a := i) rfl ?_)
  refine wpAny_bind (m := asInt? (.ref x)) ?_
  unfold asInt?
  refine wpAny_bind (wpAny_load' ho ?_)
  obtain ⟨oc, odi, data, osl⟩ := o
  have fin : ∀ g : Option Int → Sem Fin, g none = (do rule "int.binary.not-an-int"; ret .notImplemented) → wpAny (model prog w) A.in1 (pure none : Sem (Option Int)) (fun a s' => wpAny (model prog w) A.in1 (g a) (fun fin s' => match fin with
        | Fin.done f => R (Except.ok f) s'
        | Fin.again c' => c'.quiet = true ∧ codeAny (model prog w) A c' R s') (fun e s' => R (Except.error e) s') s') (fun e s' => R (Except.error e) s') s := fun g hg => by
    refine wpAny_pure ?_
    rw [hg]
    exact wpAny_bind (wpAny_rule (wpAny_pure hR))
  cases data with
  | prim v => cases v <;> first | exact fin _ rfl | exact (hd _ _ rfl).elim
  | _ => exact fin _ rfl
end PySem
namespace PySem.W
open PySem PySem.Spec PyProof.Rows L2
section
variable {prog : Program} {w : World} {M : Model} {A : Around} {E : Value → Shared → Prop} {s : Shared} {K : Frag} {x C L f f0 : Addr} {h₀ : Heap} {m : Str → Option Value} {ox : Obj} {od : Option Obj} {nm T : String}
theorem try_int {id : String} {name : Str} {i : Int} {t : Tok} {B : Builtin} {Q : Option Value → Shared → Prop} (slot : Slot "int" name id) (entry : entryFor table id = some B) (args : argsOk id ⟨[.int i t, .ref x], []⟩)
    (me : Meets (B ⟨[.int i t, .ref x], []⟩) fun A R s => (∃ o, s.heap.get? x = some o ∧ ∀ j u, o.data ≠ .prim (.int j u)) ∧ R (.ok (.ret .notImplemented)) s)
    (hx : s.heap.get? x = some ox) (hd : ∀ j u, ox.data ≠ .prim (.int j u)) (q : Q none s) : wpAny (model prog w) A (tryMethod (.int i t) name (.ref x)) Q E s := by
  unfold tryMethod callSpecial?
  refine wpAny_bind ?_
  refine wpAny_bind (wpAny_of_eq (a := some (.builtin id)) (show specialOf (.int i t) name = pure (some (.builtin id)) from slot.lookup) ?_)
  refine wpAny_holding ?_
  refine wpAny_bind (wpAny_of_eq (a := ((Value.builtin id, [Value.int i t]) : Value × List Value)) (slot.bind _) ?_)
  refine wpAny_bind (call_meets slot (typeIs_int s i t) entry args me ⟨⟨ox, hx, hd⟩, ?_⟩)
  exact wpAny_pure (wpAny_pure q)
theorem ksp_binR {op : Operator} {i : Int} {t : Tok} {id : String} {B : Builtin} {Q : Value → Shared → Prop} (F : Fr h₀ L s.heap m) (X₀ : K.In h₀) (I : InstAt s.heap x ox C od) (hd : ∀ j u, ox.data ≠ .prim (.int j u)) (hc : selfFirst K C = true)
    (hs : findIn K (.ref C) (PySem.dunder op.info.2) = some (some (.ref f0))) (hr : findIn K (.ref C) (dunderR op.info.2) = some (some (.ref f))) (hf : isFn K (.ref f) = true)
    (fills : fillsNumberSlot (.type "int") op.info.2 = pure true) (slot : Slot "int" (PySem.dunder op.info.2) id) (entry : entryFor table id = some B) (args : argsOk id ⟨[.int i t, .ref x], []⟩)
    (me : Meets (B ⟨[.int i t, .ref x], []⟩) fun A R s => (∃ o, s.heap.get? x = some o ∧ ∀ j u, o.data ≠ .prim (.int j u)) ∧ R (.ok (.ret .notImplemented)) s)
    (hsub : subIn K (.ref C) (.type "int") = some false)
    (h : wpAny (model prog w) A (call (.ref f) [.ref x, .int i t]) (CmpBack Q) E s) : wpAny (model prog w) A (binaryOp op (.int i t) (.ref x)) Q E s := by
  have X := X₀.keeps F.keep
  obtain ⟨cd, rest, hcd, hm⟩ := ksp_first hc
  rcases hi : op.info with ⟨sym, nm'⟩
  rw [hi] at hs hr fills slot
  dsimp only at hs hr fills slot
  have hxx := I.at_
  have two := ksp_try (b := .int i t) X I hr hf h
  obtain ⟨hh, g, d, tt, os⟩ := s
  have one : ∀ {Q : Option Value → Shared → Prop}, Q none ⟨hh, g, d, tt, os⟩ → wpAny (model prog w) A (tryMethod (.int i t) (PySem.dunder nm') (.ref x)) Q E ⟨hh, g, d, tt, os⟩ := fun q => try_int slot entry args me hxx hd q
  have L1 : Looks (model prog w) hh (typeOf (.int i t)) (.type "int") := Looks.of_pure rfl
  have L2 : Looks (model prog w) hh (typeOf (.ref x)) (.ref C) := I.type
  have L3 : Looks (model prog w) hh (fillsNumberSlot (.type "int") nm') true := Looks.of_pure fills
  have L4 : Looks (model prog w) hh (fillsNumberSlot (.ref C) nm') true := fills_K X hcd hm hs
  have L5 : Looks (model prog w) hh (isSubtype (.ref C) (.type "int")) false := looks_subIn X hsub
  have L7 : Looks (model prog w) hh (numberSlotInPython (.type "int") nm') false := Looks.of_pure rfl
  have hne : (Value.type "int" == Value.ref C) = false := Bool.eq_false_iff.mpr fun q => by cases beq_iff_eq.mp q
  simp only [binaryOp, hi]
  refine wpAny_holding (wpAny_bind ?_)
  unfold binaryOp1
  refine wpAny_bind (L1.at (wpAny_bind (L2.at (wpAny_bind (L3.at ?_)))))
  simp only [hne, Bool.false_eq_true, if_false]
  ksp_lk
  refine one ?_
  ksp_lk
  refine wpAny_mono two (fun r s' hr' => ?_) fun _ _ e => e
  obtain ⟨v, rfl, hq⟩ := hr'
  ksp_lk
  exact hq
end
end PySem.W
namespace L2
open PySem PySem.Spec PyProof.Rows
section
variable {X : Cx} {n : Nat} {CX : CXT} {C f f0 : Addr} {fd : FuncData} {ps : List Str} {sp : Sp} {E : XK} {pins : List (Addr × Obj)} {σ : St} {H : Hp} {s : Shared}
/-- a whole number and an own object: the own reflected method -/
def rIOwn (C : Addr) (sp : Sp) (E : XK) : R2 := fun x y H Q => ∃ a dx fs i, x = .int i ∧ y = .ref a ∧ H a = some (.ins C dx fs) ∧ sp [.ref a, .int i] H Q E
theorem op_IOwn {op : Operator} {id : String} {B : Builtin} (F : FnOk X.prog X.w X.K X.mg X.base CX n f fd ps sp) (hr : Room n X.A) (hs : PySem.W.findIn X.K (.ref C) (PySem.dunder op.info.2) = some (some (.ref f0))) (hrr : PySem.W.findIn X.K (.ref C) (dunderR op.info.2) = some (some (.ref f))) (hf : PySem.W.isFn X.K (.ref f) = true)
    (hc : PySem.W.selfFirst X.K C = true) (fills : fillsNumberSlot (.type "int") op.info.2 = pure true) (slot : Slot "int" (PySem.dunder op.info.2) id) (entry : entryFor table id = some B) (args : ∀ a b : Value, argsOk id ⟨[a, b], []⟩)
    (me : ∀ (i : Int) (t : Tok) (x : Addr), Meets (B ⟨[.int i t, .ref x], []⟩) fun A R s => (∃ o, s.heap.get? x = some o ∧ ∀ j u, o.data ≠ .prim (.int j u)) ∧ R (.ok (.ret .notImplemented)) s)
    (hsub : PySem.W.subIn X.K (.ref C) (.type "int") = some false) (hb : Binds X.K fd ps []) (hx : Passes CX X E) : OpR X (binaryOp op) (rIOwn C sp E) := by
  intro pins s σ H x y v u Q I rx ry h
  obtain ⟨a, dx, fs, i, rfl, rfl, ha, h⟩ := h
  obtain ⟨t, rfl⟩ := rx
  cases ry
  obtain ⟨mA, J, _⟩ := ins_get I.hok ha
  obtain ⟨od, J, _⟩ := J.look
  obtain ⟨m, hF⟩ := I.fr
  refine PySem.W.ksp_binR hF I.ok.mod.kin J (fun j u h => by cases h) hc hs hrr hf fills slot entry (args _ _) (me i t a) hsub ?_
  exact thn (run_own (vs := [.ref a, .int i]) F ⟨hr, rfl⟩ hb hx I (.cons rfl (.cons ⟨t, rfl⟩ .nil)) h) fun u s' q => back_ep q
def rNegOwn (C : Addr) (sp : Sp) (E : XK) : V → Hp → VK → Prop := fun x H Q => ∃ a dx fs, x = .ref a ∧ H a = some (.ins C dx fs) ∧ sp [.ref a] H Q E
theorem un_negOwn (F : FnOk X.prog X.w X.K X.mg X.base CX n f fd ps sp) (hr : Room n X.A) (hs : PySem.W.findIn X.K (.ref C) "__neg__" = some (some (.ref f))) (hf : PySem.W.isFn X.K (.ref f) = true)
    (hb : Binds X.K fd ps []) (hx : Passes CX X E) : UnR X (unaryOp .USub) (rNegOwn C sp E) := by
  intro pins s σ H x v Q I rx h
  obtain ⟨a, dx, fs, rfl, ha, h⟩ := h
  cases rx
  obtain ⟨mA, J, _⟩ := ins_get I.hok ha
  obtain ⟨od, J, _⟩ := J.look
  obtain ⟨m, hF⟩ := I.fr
  exact PySem.W.ksp_neg hF I.ok.mod.kin J hs hf (run_own (vs := [.ref a]) F ⟨hr, rfl⟩ hb hx I (.cons rfl .nil) h)
end
section
variable {X : Cx} {n : Nat} {CX : CXT} {C f f0 : Addr} {fd : FuncData} {ps : List Str} {sp : Sp} {E : XK}
theorem op_addIOwn (F : FnOk X.prog X.w X.K X.mg X.base CX n f fd ps sp) (hr : Room n X.A) (hs : PySem.W.findIn X.K (.ref C) "__add__" = some (some (.ref f0))) (hrr : PySem.W.findIn X.K (.ref C) "__radd__" = some (some (.ref f))) (hf : PySem.W.isFn X.K (.ref f) = true)
    (hc : PySem.W.selfFirst X.K C = true) (hsub : PySem.W.subIn X.K (.ref C) (.type "int") = some false) (hb : Binds X.K fd ps []) (hx : Passes CX X E) : OpR X (binaryOp .Add) (rIOwn C sp E) :=
  op_IOwn F hr hs hrr hf hc PySem.F.fills_int_add PySem.F.slot_int_add PySem.F.entry_int_add PySem.F.args_int_add_2 (fun _ _ _ => meets_intBin) hsub hb hx
theorem op_subIOwn (F : FnOk X.prog X.w X.K X.mg X.base CX n f fd ps sp) (hr : Room n X.A) (hs : PySem.W.findIn X.K (.ref C) "__sub__" = some (some (.ref f0))) (hrr : PySem.W.findIn X.K (.ref C) "__rsub__" = some (some (.ref f))) (hf : PySem.W.isFn X.K (.ref f) = true)
    (hc : PySem.W.selfFirst X.K C = true) (hsub : PySem.W.subIn X.K (.ref C) (.type "int") = some false) (hb : Binds X.K fd ps []) (hx : Passes CX X E) : OpR X (binaryOp .Sub) (rIOwn C sp E) :=
  op_IOwn F hr hs hrr hf hc PySem.F.fills_int_sub PySem.F.slot_int_sub PySem.F.entry_int_sub PySem.F.args_int_sub_2 (fun _ _ _ => meets_intBin) hsub hb hx
theorem op_mulIOwn (F : FnOk X.prog X.w X.K X.mg X.base CX n f fd ps sp) (hr : Room n X.A) (hs : PySem.W.findIn X.K (.ref C) "__mul__" = some (some (.ref f0))) (hrr : PySem.W.findIn X.K (.ref C) "__rmul__" = some (some (.ref f))) (hf : PySem.W.isFn X.K (.ref f) = true)
    (hc : PySem.W.selfFirst X.K C = true) (hsub : PySem.W.subIn X.K (.ref C) (.type "int") = some false) (hb : Binds X.K fd ps []) (hx : Passes CX X E) : OpR X (binaryOp .Mult) (rIOwn C sp E) :=
  op_IOwn F hr hs hrr hf hc PySem.F.fills_int_mul PySem.F.slot_int_mul PySem.F.entry_int_mul PySem.F.args_int_mul_2 (fun _ _ _ => meets_intBin) hsub hb hx
end
end L2
namespace PySem.W
open PySem PySem.Spec PyProof.Rows L2
section
variable {prog : Program} {w : World} {M : Model} {A : Around} {E : Value → Shared → Prop} {s : Shared} {K : Frag} {x C L f f0 : Addr} {h₀ : Heap} {m : Str → Option Value} {ox : Obj} {od : Option Obj}
theorem ifBound_int {id : String} {name : Str} {i : Int} {t : Tok} {Q : Option Value → Shared → Prop} (slot : Slot "int" name id)
    (h : wpAny M A (call (.builtin id) [.int i t, .ref x]) (fun v => Q (some v)) E s) : wpAny M A (callSpecialIfBound? (.int i t) name [.ref x]) Q E s := by
  simp only [callSpecialIfBound?, bindSpecialIfBound?]
  refine wpAny_holding (wpAny_bind (wpAny_bind (wpAny_of_eq (a := some (.builtin id)) (show specialOf (.int i t) name = pure (some (.builtin id)) from slot.lookup) ?_)))
  refine wpAny_bind (wpAny_askSetting (wpAny_ite ?_))
  have fin : wpAny M A (call (.builtin id) ([.int i t] ++ [.ref x]) >>= fun v => pure (some v)) Q E s := wpAny_bind (wpAny_mono h (fun v s' h' => wpAny_pure h') fun _ _ h' => h')
  split
  · exact wpAny_bind (wpAny_of_eq (slot.bind _) (wpAny_pure (by exact fin)))
  · exact wpAny_tryCatch (wpAny_bind (wpAny_of_eq (slot.bind _) (wpAny_pure (by exact fin))))
theorem tryc_int {id : String} {name : Str} {i : Int} {t : Tok} {B : Builtin} {Q : Option Value → Shared → Prop} (slot : Slot "int" name id) (entry : entryFor table id = some B) (args : argsOk id ⟨[.int i t, .ref x], []⟩)
    (me : Meets (B ⟨[.int i t, .ref x], []⟩) fun A R s => (∃ o, s.heap.get? x = some o ∧ ∀ j u, o.data ≠ .prim (.int j u)) ∧ R (.ok (.ret .notImplemented)) s)
    (hx : s.heap.get? x = some ox) (hd : ∀ j u, ox.data ≠ .prim (.int j u)) (q : Q none s) : wpAny (model prog w) A (tryCompare (.int i t) name (.ref x)) Q E s := by
  unfold tryCompare
  refine wpAny_bind (ifBound_int slot ?_)
  refine call_meets slot (typeIs_int s i t) entry args me ⟨⟨ox, hx, hd⟩, ?_⟩
  exact wpAny_pure q
theorem ksp_cmpR {op : CmpOp} {i : Int} {t : Tok} {id : String} {B : Builtin} {Q : Value → Shared → Prop} (hu : A.units < cLine) (F : Fr h₀ L s.heap m) (X₀ : K.In h₀) (I : InstAt s.heap x ox C od) (hd : ∀ j u, ox.data ≠ .prim (.int j u))
    (hr : findIn K (.ref C) (cmpInfo op).2.2 = some (some (.ref f))) (hf : isFn K (.ref f) = true) (slot : Slot "int" (cmpInfo op).2.1 id) (entry : entryFor table id = some B) (args : argsOk id ⟨[.int i t, .ref x], []⟩)
    (me : Meets (B ⟨[.int i t, .ref x], []⟩) fun A R s => (∃ o, s.heap.get? x = some o ∧ ∀ j u, o.data ≠ .prim (.int j u)) ∧ R (.ok (.ret .notImplemented)) s)
    (hsub : subIn K (.ref C) (.type "int") = some false)
    (h : wpAny (model prog w) A (call (.ref f) [.ref x, .int i t]) (CmpBack Q) E s) : wpAny (model prog w) A (richCompare op (.int i t) (.ref x)) Q E s := by
  have X := X₀.keeps F.keep
  have two : wpAny (model prog w) A (tryCompare (.ref x) (cmpInfo op).2.2 (.int i t)) (fun r s' => ∃ v, r = some v ∧ Q v s') E s := by
    unfold tryCompare
    refine wpAny_bind (ifBound_K X I hr hf (wpAny_mono h (fun v s' hv => ?_) fun _ _ e => e))
    cases v <;> first | exact hv.elim | exact wpAny_pure ⟨_, rfl, hv⟩
  have hxx := I.at_
  have hne : (Value.type "int" != Value.ref C) = true := by rfl
  unfold richCompare
  have h1 : oneThing? op (.int i t) (.ref x) = none := by cases op <;> rfl
  simp only [h1]
  refine wpAny_holding (wpAny_bind (wpAny_cRoomFor hu ?_))
  refine wpAny_bind (wpAny_of_eq (a := Value.type "int") rfl ?_)
  refine wpAny_bind (I.type.here ?_)
  rw [if_pos hne]
  refine wpAny_bind ((looks_subIn X hsub).here ?_)
  simp only [Bool.false_eq_true, if_false]
  refine wpAny_bind (tryc_int slot entry args me hxx hd ?_)
  refine wpAny_bind (wpAny_mono two (fun r s' z => ?_) fun _ _ e => e)
  obtain ⟨v, rfl, hq⟩ := z
  exact wpAny_pure hq
end
end PySem.W
namespace L2
open PySem PySem.Spec PyProof.Rows
section
variable {X : Cx} {n : Nat} {CX : CXT} {C f : Addr} {fd : FuncData} {ps : List Str} {sp : Sp} {E : XK}
/-- own object < whole number .. -/
theorem cmp_ownI {op : CmpOp} (F : FnOk X.prog X.w X.K X.mg X.base CX n f fd ps sp) (hr : Room n X.A) (hs : PySem.W.findIn X.K (.ref C) (PySem.cmpInfo op).2.1 = some (some (.ref f))) (hf : PySem.W.isFn X.K (.ref f) = true)
    (hsub : PySem.W.subIn X.K (.type "int") (.ref C) = some false) (hb : Binds X.K fd ps []) (hx : Passes CX X E) : OpR X (richCompare op) (rOwnI C sp E) := by
  intro pins s σ H x y v u Q I rx ry h
  obtain ⟨a, dx, fs, i, rfl, rfl, ha, h⟩ := h
  cases rx
  obtain ⟨t, rfl⟩ := ry
  obtain ⟨mA, J, _⟩ := ins_get I.hok ha
  obtain ⟨od, J, _⟩ := J.look
  obtain ⟨m, hF⟩ := I.fr
  refine PySem.W.cmp_K hr.units0 hF I.ok.mod.kin J (PySem.W.Looks.of_pure rfl) (by unfold PySem.W.notFirst; rw [hsub]; rfl) hs hf ?_
  exact thn (run_own (vs := [.ref a, .int i]) F ⟨hr, rfl⟩ hb hx I (.cons rfl (.cons ⟨t, rfl⟩ .nil)) h) fun u s' q => back_ep q
/-- whole number < own object .., by the own method of the other direction -/
theorem cmp_IOwn {op : CmpOp} {id : String} {B : Builtin} (F : FnOk X.prog X.w X.K X.mg X.base CX n f fd ps sp) (hr : Room n X.A) (hs : PySem.W.findIn X.K (.ref C) (PySem.cmpInfo op).2.2 = some (some (.ref f))) (hf : PySem.W.isFn X.K (.ref f) = true)
    (slot : Slot "int" (PySem.cmpInfo op).2.1 id) (entry : entryFor table id = some B) (args : ∀ a b : Value, argsOk id ⟨[a, b], []⟩)
    (me : ∀ (i : Int) (t : Tok) (x : Addr), Meets (B ⟨[.int i t, .ref x], []⟩) fun A R s => (∃ o, s.heap.get? x = some o ∧ ∀ j u, o.data ≠ .prim (.int j u)) ∧ R (.ok (.ret .notImplemented)) s)
    (hsub : PySem.W.subIn X.K (.ref C) (.type "int") = some false) (hb : Binds X.K fd ps []) (hx : Passes CX X E) : OpR X (richCompare op) (rIOwn C sp E) := by
  intro pins s σ H x y v u Q I rx ry h
  obtain ⟨a, dx, fs, i, rfl, rfl, ha, h⟩ := h
  obtain ⟨t, rfl⟩ := rx
  cases ry
  obtain ⟨mA, J, _⟩ := ins_get I.hok ha
  obtain ⟨od, J, _⟩ := J.look
  obtain ⟨m, hF⟩ := I.fr
  refine PySem.W.ksp_cmpR hr.units0 hF I.ok.mod.kin J (fun j u h => by cases h) hs hf slot entry (args _ _) (me i t a) hsub ?_
  exact thn (run_own (vs := [.ref a, .int i]) F ⟨hr, rfl⟩ hb hx I (.cons rfl (.cons ⟨t, rfl⟩ .nil)) h) fun u s' q => back_ep q
theorem cmp_ltIOwn (F : FnOk X.prog X.w X.K X.mg X.base CX n f fd ps sp) (hr : Room n X.A) (hs : PySem.W.findIn X.K (.ref C) "__gt__" = some (some (.ref f))) (hf : PySem.W.isFn X.K (.ref f) = true) (hsub : PySem.W.subIn X.K (.ref C) (.type "int") = some false) (hb : Binds X.K fd ps []) (hx : Passes CX X E) : OpR X (richCompare .Lt) (rIOwn C sp E) :=
  cmp_IOwn F hr hs hf PySem.F.slot_int_lt PySem.F.entry_int_lt PySem.F.args_int_lt_2 (fun _ _ _ => meets_intBin) hsub hb hx
theorem cmp_leIOwn (F : FnOk X.prog X.w X.K X.mg X.base CX n f fd ps sp) (hr : Room n X.A) (hs : PySem.W.findIn X.K (.ref C) "__ge__" = some (some (.ref f))) (hf : PySem.W.isFn X.K (.ref f) = true) (hsub : PySem.W.subIn X.K (.ref C) (.type "int") = some false) (hb : Binds X.K fd ps []) (hx : Passes CX X E) : OpR X (richCompare .LtE) (rIOwn C sp E) :=
  cmp_IOwn F hr hs hf PySem.F.slot_int_le PySem.F.entry_int_le PySem.F.args_int_le_2 (fun _ _ _ => meets_intBin) hsub hb hx
theorem cmp_gtIOwn (F : FnOk X.prog X.w X.K X.mg X.base CX n f fd ps sp) (hr : Room n X.A) (hs : PySem.W.findIn X.K (.ref C) "__lt__" = some (some (.ref f))) (hf : PySem.W.isFn X.K (.ref f) = true) (hsub : PySem.W.subIn X.K (.ref C) (.type "int") = some false) (hb : Binds X.K fd ps []) (hx : Passes CX X E) : OpR X (richCompare .Gt) (rIOwn C sp E) :=
  cmp_IOwn F hr hs hf PySem.F.slot_int_gt PySem.F.entry_int_gt PySem.F.args_int_gt_2 (fun _ _ _ => meets_intBin) hsub hb hx
theorem cmp_geIOwn (F : FnOk X.prog X.w X.K X.mg X.base CX n f fd ps sp) (hr : Room n X.A) (hs : PySem.W.findIn X.K (.ref C) "__le__" = some (some (.ref f))) (hf : PySem.W.isFn X.K (.ref f) = true) (hsub : PySem.W.subIn X.K (.ref C) (.type "int") = some false) (hb : Binds X.K fd ps []) (hx : Passes CX X E) : OpR X (richCompare .GtE) (rIOwn C sp E) :=
  cmp_IOwn F hr hs hf PySem.F.slot_int_ge PySem.F.entry_int_ge PySem.F.args_int_ge_2 (fun _ _ _ => meets_intBin) hsub hb hx
theorem cmp_eqIOwn (F : FnOk X.prog X.w X.K X.mg X.base CX n f fd ps sp) (hr : Room n X.A) (hs : PySem.W.findIn X.K (.ref C) "__eq__" = some (some (.ref f))) (hf : PySem.W.isFn X.K (.ref f) = true) (hsub : PySem.W.subIn X.K (.ref C) (.type "int") = some false) (hb : Binds X.K fd ps []) (hx : Passes CX X E) : OpR X (richCompare .Eq) (rIOwn C sp E) :=
  cmp_IOwn F hr hs hf PySem.F.slot_int_eq PySem.F.entry_int_eq PySem.F.args_int_eq_2 (fun _ _ _ => meets_intBin) hsub hb hx
end
end L2
namespace L2
open PySem PySem.Spec PyProof.Rows
theorem op_or2 {X : Cx} {f : Value → Value → Sem Value} {r1 r2 : R2} (h1 : OpR X f r1) (h2 : OpR X f r2) : OpR X f (fun x y H Q => r1 x y H Q ∨ r2 x y H Q) :=
  fun pins s σ H x y v u Q I rx ry h => h.elim (h1 pins s σ H x y v u Q I rx ry) (h2 pins s σ H x y v u Q I rx ry)
/-! ratios -/
def RatAt (C : Addr) (H : Hp) (x : Addr) (t b : Int) : Prop := ∃ dx, H x = some (.ins C dx [("top", .int t), ("bottom", .int b)])
def Nrm (t b : Int) : Prop := 0 < b ∧ Nat.gcd t.natAbs b.natAbs = 1
/-- t / b is p / q -/
def IsR (t b p q : Int) : Prop := Nrm t b ∧ t * q = p * b
def RV (C : Addr) (H : Hp) (y : V) (p q : Int) : Prop := (y = .int p ∧ q = 1) ∨ ∃ b, y = .ref b ∧ RatAt C H b p q
theorem RatAt.same {C : Addr} {H H' : Hp} {x : Addr} {t b : Int} (s : Same H H') (h : RatAt C H x t b) : RatAt C H' x t b := let ⟨dx, e⟩ := h; ⟨dx, s _ _ e⟩
theorem RV.same {C : Addr} {H H' : Hp} {y : V} {p q : Int} (s : Same H H') (h : RV C H y p q) : RV C H' y p q := h.elim (fun h => .inl h) fun ⟨b, e, h⟩ => .inr ⟨b, e, h.same s⟩
theorem putR1 {v : V} : putF ("top" : Str) v [] = [(("top" : Str), v)] := by rfl
theorem putR2 {u v : V} : putF ("bottom" : Str) v [(("top" : Str), u)] = [(("top" : Str), u), (("bottom" : Str), v)] := by rfl
theorem nrm_div {p q : Int} (hq : q ≠ 0) {g : Nat} (hg : g = Nat.gcd p.natAbs q.natAbs) : IsR (p / (if 0 < q then (g : Int) else -(g : Int))) (q / (if 0 < q then (g : Int) else -(g : Int))) p q := by
  have g0 : 0 < g := by rw [hg]; exact Nat.gcd_pos_of_pos_right _ (by omega)
  obtain ⟨p', hp'⟩ : (g : Int) ∣ p := Int.ofNat_dvd_left.mpr (by rw [hg]; exact Nat.gcd_dvd_left _ _)
  obtain ⟨q', hq'⟩ : (g : Int) ∣ q := Int.ofNat_dvd_left.mpr (by rw [hg]; exact Nat.gcd_dvd_right _ _)
  have cop : Nat.gcd p'.natAbs q'.natAbs = 1 := by
    have h1 := congrArg Int.natAbs hp'
    have h2 := congrArg Int.natAbs hq'
    rw [Int.natAbs_mul, Int.natAbs_natCast] at h1 h2
    rw [h1, h2, Nat.gcd_mul_left] at hg
    exact Nat.eq_of_mul_eq_mul_left g0 (by rw [← hg, Nat.mul_one])
  have gi : (g : Int) ≠ 0 := by omega
  clear hg
  split
  · rename_i h
    have e1 : p / (g : Int) = p' := by rw [hp', Int.mul_ediv_cancel_left _ gi]
    have e2 : q / (g : Int) = q' := by rw [hq', Int.mul_ediv_cancel_left _ gi]
    rw [e1, e2]
    refine ⟨⟨?_, cop⟩, ?_⟩
    · refine Int.not_le.mp fun z => ?_
      have := Int.mul_nonneg (a := (g : Int)) (b := -q') (by omega) (by omega)
      rw [Int.mul_neg] at this
      omega
    · rw [hp', hq']
      simp [Int.mul_comm, Int.mul_left_comm, Int.mul_assoc]
  · rename_i h
    have e1 : p / -(g : Int) = -p' := by rw [hp', Int.ediv_neg, Int.mul_ediv_cancel_left _ gi]
    have e2 : q / -(g : Int) = -q' := by rw [hq', Int.ediv_neg, Int.mul_ediv_cancel_left _ gi]
    rw [e1, e2]
    refine ⟨⟨?_, by rw [Int.natAbs_neg, Int.natAbs_neg]; exact cop⟩, ?_⟩
    · have : q' < 0 := by
        refine Int.not_le.mp fun z => h ?_
        have h1 : 0 ≤ (g : Int) * q' := Int.mul_nonneg (by omega) z
        omega
      omega
    · rw [hp', hq']
      grind
end L2
namespace L2
open PySem PySem.Spec PyProof.Rows
def Sz (k : Nat) (i : Int) : Prop := i.natAbs < 2 ^ k
theorem Sz.mono {k l : Nat} {i : Int} (h : Sz k i) (e : k ≤ l) : Sz l i := Nat.lt_of_lt_of_le h (Nat.pow_le_pow_right (by decide) e)
theorem Sz.mul {k l : Nat} {i j : Int} (a : Sz k i) (b : Sz l j) : Sz (k + l) (i * j) := by
  unfold Sz at *
  rw [Int.natAbs_mul, Nat.pow_add]
  exact Nat.mul_lt_mul'' a b
theorem Sz.add {k : Nat} {i j : Int} (a : Sz k i) (b : Sz k j) : Sz (k + 1) (i + j) := by
  unfold Sz at *
  have := Int.natAbs_add_le i j
  rw [Nat.pow_succ]
  omega
theorem Sz.neg {k : Nat} {i : Int} (a : Sz k i) : Sz k (-i) := by
  unfold Sz at *
  rwa [Int.natAbs_neg]
theorem Sz.le {k : Nat} {i j : Int} (a : Sz k i) (h : j.natAbs ≤ i.natAbs) : Sz k j := Nat.lt_of_le_of_lt h a
theorem Sz.mulW {k l : Nat} {i j : Int} (a : Sz k i) (b : Sz l j) (h : k + l ≤ 900) : CMulW i j :=
  wide_mul (a := k + 1) (b := l + 1) (a.mono (Nat.le_succ _)) (b.mono (Nat.le_succ _)) (Nat.succ_pos _) (Nat.succ_pos _) (by omega)
theorem isR_int {t b i : Int} (h : IsR t b i 1) : b = 1 ∧ t = i := by
  obtain ⟨⟨h0, hg⟩, e⟩ := h
  rw [Int.mul_one] at e
  have : b.natAbs ∣ t.natAbs := by rw [e, Int.natAbs_mul]; exact Nat.dvd_mul_left _ _
  rw [Nat.gcd_comm, Nat.gcd_eq_left this] at hg
  have hb : b = 1 := by omega
  exact ⟨hb, by rw [e, hb, Int.mul_one]⟩
def spRInit (C : Addr) : Sp := fun vs H Q _ => ∃ (x dx : Addr) (p q : Int), vs = [.ref x, .int p, .int q] ∧ H x = some (.ins C dx []) ∧ 0 < q ∧ Sz 900 q ∧
  ∀ H' t b, RatAt C H' x t b → (∀ c u, c ≠ x → H c = some u → H' c = some u) → IsR t b p q → t.natAbs ≤ p.natAbs → b.natAbs ≤ q.natAbs → Q .non H'
def spRof (C : Addr) : Sp := fun vs H Q _ => ∃ (y : V) (p q : Int), vs = [y] ∧ RV C H y p q ∧ ∀ H' r, Same H H' → RatAt C H' r p q → Q (.ref r) H'
def spRNew (C : Addr) (H : Hp) (p q : Int) (Q : VK) : Prop := ∀ H' r t b, Same H H' → RatAt C H' r t b → IsR t b p q → t.natAbs ≤ p.natAbs → b.natAbs ≤ q.natAbs → Q (.ref r) H'
def spRAdd (C : Addr) : Sp := fun vs H Q _ => ∃ (x : Addr) (y : V) (t1 b1 t2 b2 : Int), vs = [.ref x, y] ∧ RatAt C H x t1 b1 ∧ RV C H y t2 b2 ∧ 0 < b1 ∧ 0 < b2 ∧ Sz 400 t1 ∧ Sz 400 b1 ∧ Sz 400 t2 ∧ Sz 400 b2 ∧ spRNew C H (t1 * b2 + t2 * b1) (b1 * b2) Q
def spRNeg (C : Addr) : Sp := fun vs H Q _ => ∃ (x : Addr) (t1 b1 : Int), vs = [.ref x] ∧ RatAt C H x t1 b1 ∧ 0 < b1 ∧ Sz 400 b1 ∧ spRNew C H (-t1) b1 Q
def spRSub (C : Addr) : Sp := fun vs H Q _ => ∃ (x : Addr) (y : V) (t1 b1 t2 b2 : Int), vs = [.ref x, y] ∧ RatAt C H x t1 b1 ∧ RV C H y t2 b2 ∧ Nrm t1 b1 ∧ Nrm t2 b2 ∧ Sz 400 t1 ∧ Sz 400 b1 ∧ Sz 400 t2 ∧ Sz 400 b2 ∧ spRNew C H (t1 * b2 + -t2 * b1) (b1 * b2) Q
/-- a comparison of fractions -/
def spRCmp (C : Addr) (f : Int → Int → Bool) : Sp := fun vs H Q _ => ∃ (x : Addr) (y : V) (t1 b1 t2 b2 : Int), vs = [.ref x, y] ∧ RatAt C H x t1 b1 ∧ RV C H y t2 b2 ∧ Nrm t1 b1 ∧ Nrm t2 b2 ∧ Sz 400 t1 ∧ Sz 400 b1 ∧ Sz 400 t2 ∧ Sz 400 b2 ∧ ∀ H', Same H H' → Q (.bl (f (t1 * b2) (t2 * b1))) H'
end L2
namespace L2
open PySem PySem.Spec PyProof.Rows
/-- a def with defaults that lets no error out -/
theorem FunD.ok0 {P : Program} {w : World} {K : PySem.W.Frag} {mg : Str → Option Value} {base : Heap} {x qual : Str} {params : Arguments} {body : List Stmt} {scope : Scope} {dvs : List V} {kws : List (Str × V)} {f : Addr} {fd : FuncData} {N ps : List Str} {k : Nat} {sp : Sp} (F : FunD K x qual params body scope dvs kws f fd) (S : FnScope N ps scope) (len : ∀ vs H Q E, sp vs H Q E → vs.length = ps.length)
    (hbody : ∀ (cdv : Value) (A : Around) (outer : List Env) (s : Shared) (H : Hp) (vs : List V) (Q : VK) (E : XK), Room k (A.deeper (envOfC qual scope s.heap.objs.size f cdv)) → sp vs H Q E →
      ∃ t, PSs (cxOf CX0 P w K mg base N qual scope f cdv A outer s H E).nox body t ∧ t { nx := fun _ H' => Q .non H', rt := Q } (start N vs) H) : FnOk P w K mg base CX0 (k + 1) f fd ps sp := by
  obtain ⟨oc, od, dV, kV, doc, pm, an, cdv, ct, osl, rfl, lk, hcd, _, _⟩ := F.ex
  refine fn_of lk hcd S len fun A outer s H vs Q E hr hsp => ?_
  obtain ⟨t, h, q⟩ := hbody cdv A outer s H vs Q E hr hsp
  exact ⟨t, h.nox, q⟩
end L2
namespace L2
open PySem PySem.Spec PyProof.Rows
theorem kit_int {K : PySem.W.Frag} {C : Addr} (h2 : PySem.W.isClsIn K C = true) (h3 : PySem.W.typeIn K (.ref C) = some (.type "type")) : PySem.W.kitOne K (.type "int") (.ref C) = some false := by
  unfold PySem.W.kitOne
  split
  · rename_i h
    cases h
  · show (if ((PySem.W.clsIn K C).isSome && PySem.W.typeIn K (.ref C) == some (.type "type")) = true then PySem.W.subIn K (.type "int") (.ref C) else none) = some false
    rw [show (PySem.W.clsIn K C).isSome = true from h2, h3]
    rfl
end L2

namespace L2
open PySem PySem.Spec PyProof.Rows
section
variable {X : Cx}
def eqb (k : Bool) (v : Value) : Bool := match v with
  | .bool n => n == k
  | _ => false
def rCntB (K : PySem.W.Frag) : V → List V → Hp → VK → Prop := fun x xs H Q => ∃ (p : Addr) (bs : List Bool) (k : Bool), x = .ref p ∧ xs = [.bl k] ∧ SqL K H p (bs.map V.bl) ∧ Q (.int (bs.count k : Nat)) H
theorem eqb_at {A : Around} {s : Shared} (hu : A.units < cLine) (a b : Bool) : SeqAt.EqAt A s (.bool a) (.bool b) (a == b) := by
  have := SeqAt.eqAt_reads (.bool a) (.bool b) A s (.bool a) (.bool b) [] [] (.bool _) (.bool _) rfl rfl (by
    rw [show min (PyData.depth (.bool a)) (PyData.depth (.bool b)) = 0 by simp [PyData.depth]]
    omega)
  rwa [show PyData.eqv (.bool a) (.bool b) = (a == b) by simp [PyData.eqv]] at this
theorem mt_lcountB (hu : X.A.units + 65 < cLine) : MtR X "list.count" (rCntB X.K) := by
  intro pins s σ H x xs v us Q I rx rxs h
  obtain ⟨p, bs, k, rfl, rfl, hs, q⟩ := h
  cases rx
  obtain ⟨u, rfl, ru⟩ := rxs.one
  cases ru
  obtain ⟨its, rv, ⟨⟨cls, dd, data, sl⟩, n, ho, hc, hdn, hd⟩, hlen⟩ := I.list hs
  simp only at hc hd
  subst hc hd
  obtain rfl := Vals.bls rv
  refine call_meets PySem.F.slot_list_count ⟨_, ho, rfl⟩ PySem.F.entry_list_count (PySem.F.args_list_count_2 _ _)
    (SeqAt.list_countAt p (bs.map Value.bool).toArray n dd sl (.bool k) (eqb k)) ⟨ho, fun y hy => ?_, ?_⟩
  · obtain ⟨b, _, rfl⟩ := List.mem_map.mp (show y ∈ bs.map Value.bool by simpa using hy)
    refine eqb_at ?_ b k
    have : X.A.in1.units ≤ X.A.units + 2 := by first | exact Nat.le_refl _ | (show X.A.units + 1 ≤ _; omega) | (show X.A.units ≤ _; omega)
    omega
  have ec : ((bs.map Value.bool).toArray.toList.countP (eqb k)) = bs.count k := by
    rw [List.countP_map]
    rfl
  refine ⟨.int (bs.count k : Nat), H, I.tok _, ⟨s.toks, ?_⟩, q⟩
  show Value.int (((bs.map Value.bool).toArray.toList.countP (eqb k) : Nat) : Int) s.toks = _
  rw [ec]
/-- how many of what is told hold -/
def pgB (i j : Int) : List Bool := [decide (i < j), decide (i ≤ j), decide (i = j), decide (j ≤ i), decide (j < i)]
theorem pgB_count (i j : Int) : (pgB i j).count true = 2 ∨ (pgB i j).count true = 3 := by
  unfold pgB
  rcases Int.lt_trichotomy i j with h | h | h
  · left
    simp [h, Int.le_of_lt h, Int.ne_of_lt h, Int.not_le.mpr h, Int.not_lt.mpr (Int.le_of_lt h)]
  · right
    subst h
    simp
  · left
    simp [h, Int.le_of_lt h, (Int.ne_of_lt h).symm, Int.not_le.mpr h, Int.not_lt.mpr (Int.le_of_lt h)]
theorem pgB_rev (i j : Int) : (pgB i j).reverse = pgB j i := by
  unfold pgB
  simp [eq_comm]
end
end L2

namespace L2
open PySem PySem.Spec PyProof.Rows
/-! ## an error is made without an argument and raised: no dict of its own -/
/-- X.__init__(self): the base's __init__ alone -/
def spErr0 (C : Addr) : Sp := fun vs H Q _ => ∃ a : Addr, vs = [.ref a] ∧ H a = some (exo a C none) ∧ Q .non H
def tMk0 (C : Addr) (sp : Sp) : St → Hp → XK → Prop := fun σ H Q => ∀ a, H a = none → sp [.ref a] (upd H a (exo a C none)) (fun v H2 => v = .non ∧ H2 a = some (exo a C none) ∧ Q (.ref C) none (del H2 a)) (fun _ _ _ => False)
theorem err_make0 {C : Addr} {H : Hp} {W : Value → Option Addr → Hp → Prop} {E : XK} (k : W (.ref C) none H) : ∀ a, H a = none → spErr0 C [.ref a] (upd H a (exo a C none)) (fun v H2 => v = .non ∧ H2 a = some (exo a C none) ∧ W (.ref C) none (del H2 a)) E := fun a na => by
  refine ⟨a, rfl, upd_same, rfl, upd_same, ?_⟩
  have e : del (upd H a (exo a C none)) a = H := by
    funext b
    by_cases hb : b = a
    · subst hb
      rw [del_same, na]
    · rw [del_ne hb, upd_ne hb]
  rw [e]
  exact k
section
variable {X : Cx}
theorem mk_endN {pins : List (Addr × Obj)} {σ : St} {H1 H2 : Hp} {hp hp2 h2 : Heap} {g1 g2 : Array GenState} {d1 d2 : Drawn} {t1 t2 : Nat} {os1 os2 : OsState} {a C : Addr} (I1 : Inv X pins σ H1 ⟨hp, g1, d1, t1, os1⟩)
    (ha : hp.objs.size ≤ a) (k : ∀ b o, hp.get? b = some o → hp2.get? b = some o) (un : Un (frs X.stack) [] (upd H1 a (exo a C none)) H2 hp2 h2) (hok : HOk X.prog X.w H2 h2) (ho : os2 = os1) (hb : AllBare g2)
    (ea : H2 a = some (exo a C none)) :
    ∃ (t0 : Addr) (G : Heap), Inv X pins σ (del H2 a) ⟨G, g2, d2, t2, os2⟩ ∧ (∀ b o, G.get? b = some o → h2.get? b = some o) ∧ G.get? a = none ∧
      h2.get? a = some ({ cls := .ref C, dict := none, data := .fields #[.ref t0, .none, .none, .none, .bool false, .none] } : Obj) ∧ (del H2 a) a = none := by
  obtain ⟨t0, hoe⟩ := exo_at hok ea
  have hn : H1 a = none := I1.hok.fresh ha
  obtain ⟨G, g1', g2'⟩ := restrict h2 fun b => decide (b ≠ a)
  have gk : ∀ b, b ≠ a → G.get? b = h2.get? b := fun b hb => g1' b (decide_eq_true hb)
  have ge : G.get? a = none := g2' a (by simp)
  have nha : ∀ {b : Addr} {o : Obj}, hp.get? b = some o → b ≠ a := fun {b o} z => Nat.ne_of_lt (Nat.lt_of_lt_of_le (Heap.lt_size z) ha)
  have up : ∀ {b : Addr}, b ≠ a → H1 b = none → upd H1 a (exo a C none) b = none := fun {b} hb n => by rw [upd_ne hb]; exact n
  have U : Un (frs X.stack) [] H1 (del H2 a) hp G := {
    keep := fun b o z n hf hx => by
      rw [gk b (nha z)]
      exact un.keep b o (k b o z) (up (nha z) n) hf hx
    slot := fun b o z n hf hx => by
      rw [gk b (nha z)]
      exact un.slot b o (k b o z) (up (nha z) n) hf hx
    free := fun b o z n hx => by
      rw [del_ne (nha z)]
      exact un.free b o (k b o z) (up (nha z) n) hx
    there := fun b o z hx => by
      rw [gk b (nha z)]
      exact un.there b o (k b o z) hx
    tups := fun b xs z => by
      rw [del_ne (ne_of_none z hn)]
      exact un.tups b xs (by rw [upd_ne (ne_of_none z hn)]; exact z)
    frzs := fun b o v z => by
      rw [del_ne (ne_of_none z hn)]
      exact un.frzs b o v (by rw [upd_ne (ne_of_none z hn)]; exact z)
    tbls := fun b ps z => by
      rw [del_ne (ne_of_none z hn)]
      exact un.tbls b ps (by rw [upd_ne (ne_of_none z hn)]; exact z) }
  have hok3 : HOk X.prog X.w (del H2 a) G := fun b o z => by
    have hba : b ≠ a := fun e => by
      rw [e, del_same] at z
      cases z
    rw [del_ne hba] at z
    have noa : ∀ {c : Addr}, H2 c = some (.own b) → c ≠ a := fun {c} hc => at_ne ea hc exo_own
    exact (hok b o z).stay (fun c v hc y => by
        have hca : c ≠ a := by
          rcases hc with hc | hc
          · rw [hc]
            exact hba
          · exact noa hc
        rw [gk c hca]
        exact y)
      (fun c hc => by rw [del_ne (noa hc)]; exact hc) (fun c xs hc => by rw [del_ne (at_ne ea hc exo_tup)]; exact hc)
  have J : Inv X pins σ (del H2 a) ⟨G, g2, d2, t2, os2⟩ := I1.call' (ch := []) ho U hok3 hb (fun b z => absurd z (by simp))
  refine ⟨t0, G, J, fun b o z => ?_, ge, hoe, del_same⟩
  by_cases hba : b = a
  · rw [hba, ge] at z
    cases z
  · exact (gk b hba).symm.trans z
theorem pmk_oex0 {CX : CXT} {x : Str} {C fI : Addr} {k : Nat} {fd : FuncData} {ps : List Str} {sp : Sp} {p pos : Pos} (T : OexC X.K C) (iC : PySem.W.findIn X.K (.ref C) "__init__" = some (some (.ref fI))) (tI : PySem.W.typeIn X.K (.ref fI) = some (.type "function"))
    (F1 : FnOk X.prog X.w X.K X.mg X.base CX k fI fd ps sp) (hr : Room (k + 1) X.A) (hb : Binds X.K fd ps []) (hx : Passes CX X (fun _ _ _ => False)) (hg : Gl X x) (hm : X.mg x = some (.ref C))
    (hdb : (x == ("__debug__" : Str)) = false := by decide) :
    PMk X (.Call (.Name x p) [] [] pos) (tMk0 C sp) := by
  intro pins s σ H Q I h
  obtain ⟨nm, q, N, bs, bm, sn, sub, ab, col, dd, k0, k1, k2, k3, k5, hC, hbm⟩ := T.cls
  refine wpAny_Call_Name_kw (ld_glob I hg hm ?_ hdb)
  refine PySem.W.callWith_K0 I.kIn T.kC ?_
  show wpAny _ _ (call (.ref C) []) _ _ _
  obtain ⟨hp, g, dr, tk, os⟩ := s
  have hsz : hp.objs.size ≤ hp.objs.size + 1 := Nat.le_succ _
  have hn : H (hp.objs.size + 1) = none := I.hok.fresh hsz
  have hq := h (hp.objs.size + 1) hn
  have kk : ∀ b o, hp.get? b = some o → ((hp.push (PySem.W.kdv_tup [])).push (PySem.HandSPX.excO C hp.objs.size)).get? b = some o := fun b o e => Heap.get?_push_of_some _ (Heap.get?_push_of_some _ e)
  have hget : ((hp.push (PySem.W.kdv_tup [])).push (PySem.HandSPX.excO C hp.objs.size)).get? (hp.objs.size + 1) = some (PySem.HandSPX.excO C hp.objs.size) := by heap_get
  have I2 : Inv X pins σ (upd H (hp.objs.size + 1) (exo (hp.objs.size + 1) C none)) ⟨(hp.push (PySem.W.kdv_tup [])).push (PySem.HandSPX.excO C hp.objs.size), g, dr, tk, os⟩ :=
    I.laid (t' := tk) (a := hp.objs.size + 1) (o := exo (hp.objs.size + 1) C none) (h' := (hp.push (PySem.W.kdv_tup [])).push (PySem.HandSPX.excO C hp.objs.size)) kk hsz (exo_ok hget)
  have r2 : Vals [V.ref (hp.objs.size + 1)] [Value.ref (hp.objs.size + 1)] := .cons rfl .nil
  have hl : ([Value.ref (hp.objs.size + 1)] ++ ([] : List Value)).length = ps.length := by
    have e := r2.length
    rw [F1.len _ _ _ _ hq] at e
    exact e.symm
  refine wpAny_call (PySem.HandSPX.call_own F.excBase_ValueError (fun Y => PySem.HandSPX.refsVE_contains Y bm hbm) (I.kIn _ _ hC) (PySem.W.looks_findIn I.kIn iC) (fun self => PySem.W.bind_fn I.kIn self tI) (by show 0 ≤ sizeLine; decide)
    (codeAny_mono (F1.run _ X.stack _ _ ⟨[Value.ref (hp.objs.size + 1)], []⟩ [Value.ref (hp.objs.size + 1)] _ _ (fun _ _ _ => False) (hr.make C [] []) (I2.env0.make C [] []) (hb _ [Value.ref (hp.objs.size + 1)] I2.kIn hl) r2 hq) fun r s' hq' => ?_))
  cases r with
  | error er => exact hx pins σ _ _ er s' I2 hq'
  | ok fl =>
    cases fl with
    | ret u =>
      obtain ⟨v, H2, os2, bare2, un2, hok2, rv, ev, ea, q2⟩ := hq'
      subst ev
      obtain ⟨h2, g2, d2, t2, os'⟩ := s'
      obtain ⟨t0, G, J, kG, ge, hoe, na⟩ := mk_endN (d2 := d2) (t2 := t2) I hsz kk un2 hok2 os2 bare2 ea
      exact ⟨rv, _, _, _, ⟨G, g2, d2, t2, os'⟩, _, .ref C, none, rfl, J, kG, ge, hoe, ⟨rfl, rfl⟩, rfl, rfl, na, rfl, bare2, raises_own T.exC T.tyC, q2⟩
    | next => exact False.elim hq'
    | brk => exact False.elim hq'
    | cont => exact False.elim hq'
/-- isinstance(e, c), e the error that the suite holds, without a dict of its own -/
def rIsN (K : PySem.W.Frag) (cls : Value) (d : Option Addr) (a : Addr) : List V → Hp → VK → Prop := fun xs H Q => ∃ (D : Addr) (c : V) (cv : Value) (b : Bool), cls = .ref D ∧ d = none ∧ PySem.W.ErrK K D ∧ xs = [.ref a, c] ∧ ClsV c cv ∧ PySem.W.kitOne K (.ref D) cv = some b ∧ Q (.bl b) H
theorem call_isN {a : Addr} {oe : Obj} {cls : Value} {d : Option Addr} {pn : List (Addr × Obj)} (hz : Zc cls d oe) (hf : ∃ vs, oe.data = .fields vs) : CallR (X.suite a ((a, oe) :: pn)) (.builtin "isinstance") (rIsN X.K cls d a) := by
  intro pins s σ H xs us Q I r h
  obtain ⟨D, c, cv, b, rfl, rfl, Z, rfl, hc, e, q⟩ := h
  cases r with
  | cons rx rr =>
    cases rr with
    | cons rt rr =>
      cases rr
      cases rx
      obtain rfl := hc.eq rt
      obtain ⟨hget, _⟩ := I.pin (a, oe) (List.mem_append.mpr (.inl List.mem_cons_self))
      obtain ⟨vs, hv⟩ := hf
      have J : PySem.W.InstAt s.heap a oe D none := ⟨hget, hz.1, by unfold PySem.W.notCls; rw [hv] <;> rfl, by rw [hz.2]; trivial⟩
      exact PySem.W.kia_one (PySem.W.err_kit Z) I.kIn ⟨oe, none, J⟩ e (fun z => nomatch z) fun tk => ⟨.bl b, H, I.kept (t' := tk) fun _ _ z => z, rfl, q⟩
end
/-! ## division by a number below 0 -/
def CDivZ (_ j : Int) : Prop := j ≠ 0 ∧ j.natAbs.log2 < 9000
theorem op_fdivZ {X : Cx} : OpR X (binaryOp .FloorDiv) (rI CDivZ fun i j => .int (Int.fdiv i j)) := opI fun i j _ _ _ _ _ hc q => by
  exact floordiv_int hc.1 q (.inl (PyProof.noPylong_of_log2 hc.2))
theorem wide_divZ {i j : Int} {b : Nat} (h : j ≠ 0) (hb : j.natAbs < 2 ^ b) (h0 : 0 < b) (h9 : b ≤ 9000) : CDivZ i j := ⟨h, Nat.lt_of_lt_of_le (PySem.Flt.log2_lt_of h0 hb) h9⟩
end L2

namespace L2
open PySem PySem.Spec PyProof.Rows
/-! ratios with a bottom of any sign, and ZeroBottom raised -/
def spRInitX (C Z : Addr) : Sp := fun vs H Q E => ∃ (x dx : Addr) (p q : Int), vs = [.ref x, .int p, .int q] ∧ H x = some (.ins C dx []) ∧ Sz 900 q ∧
  (q ≠ 0 → ∀ H' t b, RatAt C H' x t b → (∀ c u, c ≠ x → H c = some u → H' c = some u) → IsR t b p q → t.natAbs ≤ p.natAbs → b.natAbs ≤ q.natAbs → Q .non H') ∧ (q = 0 → E (.ref Z) none H)
theorem mkRX {C Z : Addr} {H : Hp} {p q : Int} {R : VK} {E : XK} {x dx : Addr} (nx : H x = none) (nd : H dx = none) (ndx : dx ≠ x) (sq : Sz 900 q) (h0 : q = 0 → ∀ H', Same H H' → E (.ref Z) none H') (h : q ≠ 0 → ∀ H' t b, Same H H' → RatAt C H' x t b → IsR t b p q → t.natAbs ≤ p.natAbs → b.natAbs ≤ q.natAbs → R .non H') :
    spRInitX C Z [.ref x, .int p, .int q] (upd (upd H dx (.own x)) x (.ins C dx [])) R E := by
  have hx2 : upd H dx (.own x) x = none := by rw [upd_ne (fun z => ndx z.symm)]; exact nx
  have s := (same_upd nd (o := .own x)).trans (same_upd hx2 (o := .ins C dx []))
  exact ⟨x, dx, p, q, rfl, upd_same, sq, fun hq H' t b hr kk hi l1 l2 => h hq H' t b (fun c u hc => kk c u (ne_of_none hc nx) (s c u hc)) hr hi l1 l2, fun z => h0 z _ s⟩
theorem mkR1 {C Z : Addr} {H : Hp} {p q : Int} {R : VK} {E : XK} {x dx : Addr} (nx : H x = none) (nd : H dx = none) (ndx : dx ≠ x) (hq : q ≠ 0) (sq : Sz 900 q) (h : ∀ H' t b, Same H H' → RatAt C H' x t b → IsR t b p q → t.natAbs ≤ p.natAbs → b.natAbs ≤ q.natAbs → R .non H') :
    spRInitX C Z [.ref x, .int p, .int q] (upd (upd H dx (.own x)) x (.ins C dx [])) R E := mkRX nx nd ndx sq (fun z => absurd z hq) fun _ => h
def spRMul (C : Addr) : Sp := fun vs H Q _ => ∃ (x : Addr) (y : V) (t1 b1 t2 b2 : Int), vs = [.ref x, y] ∧ RatAt C H x t1 b1 ∧ RV C H y t2 b2 ∧ 0 < b1 ∧ 0 < b2 ∧ Sz 400 t1 ∧ Sz 400 b1 ∧ Sz 400 t2 ∧ Sz 400 b2 ∧ spRNew C H (t1 * t2) (b1 * b2) Q
def spROver (C Z : Addr) : Sp := fun vs H Q E => ∃ (x : Addr) (y : V) (t1 b1 t2 b2 : Int), vs = [.ref x, y] ∧ RatAt C H x t1 b1 ∧ RV C H y t2 b2 ∧ 0 < b1 ∧ 0 < b2 ∧ Sz 400 t1 ∧ Sz 400 b1 ∧ Sz 400 t2 ∧ Sz 400 b2 ∧ (t2 ≠ 0 → spRNew C H (t1 * b2) (b1 * t2) Q) ∧ (t2 = 0 → ∀ H', Same H H' → E (.ref Z) none H')
def spRI (C : Addr) (f : Int → Int → Int → Int) : Sp := fun vs H Q _ => ∃ (x : Addr) (t1 b1 i : Int), vs = [.ref x, .int i] ∧ RatAt C H x t1 b1 ∧ Nrm t1 b1 ∧ Sz 400 t1 ∧ Sz 400 b1 ∧ Sz 400 i ∧ spRNew C H (f t1 b1 i) (b1 * 1) Q
def spDv : Sp := fun vs H Q _ => ∃ i j : Int, vs = [.int i, .int j] ∧ Sz 900 i ∧ Sz 900 j ∧ ∀ H', Same H H' → Q (.int (Nat.gcd i.natAbs j.natAbs : Nat)) H'
def spIsR (C : Addr) : Sp := fun vs H Q _ => ∃ (x : Addr) (t b p q : Int), vs = [.ref x, .int p, .int q] ∧ RatAt C H x t b ∧ IsR t b p q ∧ Sz 400 t ∧ Sz 400 b ∧ Sz 400 p ∧ Sz 400 q ∧ ∀ H', Same H H' → Q (.bl true) H'
theorem isR_to {t b P Q P' Q' : Int} (h : IsR t b P Q) (hQ : Q ≠ 0) (e : P * Q' = P' * Q) : IsR t b P' Q' := by
  refine ⟨h.1, Int.eq_of_mul_eq_mul_right hQ ?_⟩
  have := h.2
  grind
theorem isR_self {t b : Int} (h : Nrm t b) : IsR t b t b := ⟨h, rfl⟩
/-- one round of the divisor's loop -/
def Dv (g : Nat) (i : Nat) (m n : Nat) : Prop := Nat.gcd m n = g ∧ ((i = 0 ∧ m < 2 ^ 900 ∧ n < 2 ^ 900) ∨ (0 < i ∧ n < m ∧ 2 ^ (i - 1) * (m * n) < 2 ^ 1800))
theorem Dv.step {g i m n : Nat} (h : Dv g i m n) (hn : n ≠ 0) : Dv g (i + 1) n (m % n) := by
  obtain ⟨hg, h⟩ := h
  have r := Nat.mod_lt m (Nat.pos_of_ne_zero hn)
  have r2 := Nat.mod_le m n
  refine ⟨by rw [← hg, Nat.gcd_comm m n, Nat.gcd_rec n m, Nat.gcd_comm], .inr ⟨Nat.succ_pos _, r, ?_⟩⟩
  rw [Nat.add_sub_cancel]
  rcases h with ⟨rfl, h1, h2⟩ | ⟨hi, h1, h2⟩
  · rw [Nat.pow_zero, Nat.one_mul, show (1800 : Nat) = 900 + 900 from rfl, Nat.pow_add]
    exact Nat.mul_lt_mul'' h2 (Nat.lt_trans r h2)
  · refine Nat.lt_of_le_of_lt ?_ h2
    have e : 2 ^ i = 2 ^ (i - 1) * 2 := by rw [← Nat.pow_succ]; congr 1; omega
    rw [e, Nat.mul_assoc]
    refine Nat.mul_le_mul_left _ ?_
    have d := Nat.div_add_mod m n
    have q1 : 1 ≤ m / n := (Nat.one_le_div_iff (Nat.pos_of_ne_zero hn)).mpr (Nat.le_of_lt h1)
    have : n * 1 ≤ n * (m / n) := Nat.mul_le_mul_left _ q1
    have : 2 * (m % n) ≤ m := by omega
    calc 2 * (n * (m % n)) = n * (2 * (m % n)) := by rw [Nat.mul_left_comm]
      _ ≤ n * m := Nat.mul_le_mul_left _ this
      _ = m * n := Nat.mul_comm _ _
theorem Dv.last {g m n : Nat} (h : Dv g 2000 m n) : n = 0 := by
  obtain ⟨_, h⟩ := h
  rcases h with ⟨h, _⟩ | ⟨_, h1, h2⟩
  · cases h
  · refine Nat.eq_zero_of_not_pos fun hn => ?_
    have h3 : 1 ≤ m * n := Nat.mul_pos (Nat.lt_trans hn h1) hn
    have h4 : 2 ^ (2000 - 1) * 1 ≤ 2 ^ (2000 - 1) * (m * n) := Nat.mul_le_mul_left _ h3
    have h5 : (2 : Nat) ^ 1800 ≤ 2 ^ (2000 - 1) := Nat.pow_le_pow_right (by decide) (by decide)
    omega
theorem isR_le {t b p q : Int} (h : IsR t b p q) (hq : q ≠ 0) : t.natAbs ≤ p.natAbs ∧ b.natAbs ≤ q.natAbs := by
  obtain ⟨⟨b0, hg⟩, e⟩ := h
  have e2 := congrArg Int.natAbs e
  rw [Int.natAbs_mul, Int.natAbs_mul] at e2
  have q0 : 0 < q.natAbs := by omega
  have d1 : b.natAbs ∣ q.natAbs := by
    have : b.natAbs ∣ t.natAbs * q.natAbs := by rw [e2]; exact Nat.dvd_mul_left _ _
    exact (Nat.Coprime.symm (show Nat.Coprime t.natAbs b.natAbs from hg)).dvd_of_dvd_mul_left this
  have d2 : t.natAbs ∣ p.natAbs := by
    have : t.natAbs ∣ p.natAbs * b.natAbs := by rw [← e2]; exact Nat.dvd_mul_right _ _
    exact (show Nat.Coprime t.natAbs b.natAbs from hg).dvd_of_dvd_mul_right this
  refine ⟨?_, Nat.le_of_dvd q0 d1⟩
  by_cases hp : p.natAbs = 0
  · rw [hp, Nat.zero_mul] at e2
    rcases Nat.mul_eq_zero.mp e2 with h | h <;> omega
  · exact Nat.le_of_dvd (by omega) d2
/-- a fraction in the heap that is p / q, both of at most n bits -/
def Rn (n : Nat) (C : Addr) (H : Hp) (x : Addr) (p q : Int) : Prop := ∃ t b, RatAt C H x t b ∧ IsR t b p q ∧ q ≠ 0 ∧ Sz n p ∧ Sz n q
theorem Rn.same {n : Nat} {C : Addr} {H H' : Hp} {x : Addr} {p q : Int} (h : Rn n C H x p q) (e : Same H H') : Rn n C H' x p q := let ⟨t, b, h1, h2⟩ := h; ⟨t, b, h1.same e, h2⟩
theorem Rn.mono {n m : Nat} {C : Addr} {H : Hp} {x : Addr} {p q : Int} (h : Rn n C H x p q) (e : n ≤ m) : Rn m C H x p q := let ⟨t, b, h1, h2, h3, h4, h5⟩ := h; ⟨t, b, h1, h2, h3, h4.mono e, h5.mono e⟩
/-- all but one list stays -/
def Fp (p : Addr) (H H' : Hp) : Prop := ∀ c u, c ≠ p → H c = some u → H' c = some u
theorem Same.fp {p : Addr} {H H' : Hp} (h : Same H H') : Fp p H H' := fun c u _ hc => h c u hc
theorem Fp.trans {p : Addr} {H H1 H2 : Hp} (a : Fp p H H1) (b : Fp p H1 H2) : Fp p H H2 := fun c u n h => b c u n (a c u n h)
theorem RatAt.fp {C p x : Addr} {H H' : Hp} {t b : Int} {xs : List V} (h : RatAt C H x t b) (f : Fp p H H') (hp : H p = some (.lst xs)) : RatAt C H' x t b := let ⟨dx, e⟩ := h; ⟨dx, f _ _ (fun z => by subst z; rw [e] at hp; cases hp) e⟩
theorem Rn.fp {n : Nat} {C p x : Addr} {H H' : Hp} {u v : Int} {xs : List V} (h : Rn n C H x u v) (f : Fp p H H') (hp : H p = some (.lst xs)) : Rn n C H' x u v := let ⟨t, b, h1, h2⟩ := h; ⟨t, b, h1.fp f hp, h2⟩
/-! what a step and its way back come to -/
theorem bk0 {t1 b1 t2 b2 ts bs p q : Int} (h : b1 ≠ 0) (e : ts * (b1 * b2) = (t1 * b2 + t2 * b1) * bs) (f : t1 * q = p * b1) : (ts * b2 + -t2 * bs) * q = p * (bs * b2) := Int.eq_of_mul_eq_mul_left h (by grind)
theorem bk1 {t1 b1 t2 b2 td bd p q : Int} (h : b1 ≠ 0) (e : td * (b1 * b2) = (t1 * b2 + -t2 * b1) * bd) (f : t1 * q = p * b1) : (t2 * bd + td * b2) * q = p * (b2 * bd) := Int.eq_of_mul_eq_mul_left h (by grind)
theorem bk2 {t1 b1 t2 b2 td bd p q : Int} (h : b1 ≠ 0) (e : td * (b2 * b1) = (t2 * b1 + -t1 * b2) * bd) (f : t1 * q = p * b1) : (t2 * bd + -td * b2) * q = p * (b2 * bd) := Int.eq_of_mul_eq_mul_left h (by grind)
theorem bk3 {t1 b1 t2 b2 tm bm p q : Int} (h : b1 ≠ 0) (e : tm * (b1 * b2) = (t1 * t2) * bm) (f : t1 * q = p * b1) : (tm * b2) * q = p * (bm * t2) := Int.eq_of_mul_eq_mul_left h (by grind)
theorem bk4 {t1 b1 c td bd p q : Int} (h : b1 ≠ 0) (e : td * (b1 * 1) = (-t1 * 1 + c * b1) * bd) (f : t1 * q = p * b1) : (-td * 1 + c * bd) * q = p * (bd * 1) := Int.eq_of_mul_eq_mul_left h (by grind)
theorem bk5 {t1 b1 t2 b2 tq bq p q : Int} (h : b1 ≠ 0) (e : tq * (b1 * t2) = (t1 * b2) * bq) (f : t1 * q = p * b1) : (tq * t2) * q = p * (bq * b2) := Int.eq_of_mul_eq_mul_left h (by grind)
end L2

namespace PySem.W
open PySem PySem.Spec PyProof.Rows L2
section
variable {prog : Program} {w : World} {A : Around} {E : Value → Shared → Prop} {s : Shared} {K : Frag} {x C L f : Addr} {h₀ : Heap} {m : Str → Option Value} {ox : Obj} {od : Option Obj}
theorem ksb_new (v : Value) : Builtin.«bool.__new__» ⟨[Value.type "bool", v], []⟩ = (do
    if !(← isType (Value.type "bool")) then
      rule "bool.__new__.no-type"; raiseError "TypeError" s!"bool.__new__(X): X is not a type object ({← PySem.typeNameOf (Value.type "bool")})"
    if !(← isSubtype (Value.type "bool") (Value.type "bool")) then
      rule "bool.__new__.no-subtype"; raiseError "TypeError" s!"bool.__new__({← typeName (Value.type "bool")}): {← typeName (Value.type "bool")} is not a subtype of bool"
    match ← someArgs "bool" 0 1 ⟨[v], []⟩ with
    | x :: _ => ret (.bool (← truthy x))
    | [] => ret (.bool false)) := rfl
theorem ksb_call {Q : Value → Shared → Prop} (F : Fr h₀ L s.heap m) (X₀ : K.In h₀) (I : InstAt s.heap x ox C od) (hs : findIn K (.ref C) "__bool__" = some (some (.ref f))) (hf : isFn K (.ref f) = true)
    (h : wpAny (model prog w) A.in1.in1 (call (.ref f) [.ref x]) (BoolBack fun b => Q (.bool b)) E s) : wpAny (model prog w) A (call (Value.type "bool") [.ref x]) Q E s := by
  refine callType_codes (T := "bool") (Bi := Builtin.«object.__init__») (Q₁ := fun r s₁ => ∃ b, r = .bool b ∧ Q r s₁) PySem.F.called_bool (PySem.F.typeCall_bool_1 _) PySem.F.entry_object_init ?_ ?_
  · refine codeAny_of_tree ?_
    show wpAny _ A.in1.in1 (do checkBuiltinCall "bool.__new__" ⟨[Value.type "bool", .ref x], []⟩; again (.builtin "bool.__new__" ⟨[Value.type "bool", .ref x], []⟩)) _ _ s
    refine wpAny_bind (wpAny_of_eq (PySem.F.newCall_bool_1 _) (wpAny_pure ⟨plainId_quiet (by decide +kernel) _, codeAny_builtin PySem.F.entry_bool_new ?_⟩))
    rw [Around.under_plainId (by decide +kernel) _]
    rw [ksb_new]
    refine wpAny_bind (wpAny_pure ?_)
    refine wpAny_bind (wpAny_of_eq PySem.F.conv_sub_bool ?_)
    refine wpAny_bind (wpAny_of_eq (a := [Value.ref x]) rfl ?_)
    refine wpAny_bind (truthy_K (Q := fun b s' => Q (.bool b) s') F X₀ I hs hf (wpAny_mono h (fun r s₁ hr => hr) fun _ _ y => y) |> fun z => wpAny_mono z (fun b s₁ hb => ?_) fun _ _ y => y)
    exact wpAny_pure ⟨b, rfl, hb⟩
  · rintro obj s₁ ⟨b, rfl, hq⟩
    exact ⟨rfl, PySem.F.args_object_init_2 _ _, object_init_meets PySem.F.called_bool.init.lookup PySem.F.called_bool.made (by decide) prog w A.in1 _ s₁ ⟨rfl, rfl, hq⟩⟩
end
end PySem.W
namespace L2
open PySem PySem.Spec PyProof.Rows
section
variable {X : Cx} {n : Nat} {CX : CXT} {C f : Addr} {fd : FuncData} {ps : List Str} {sp : Sp} {E : XK}
/-- bool(own object) by its __bool__ -/
def rOwnBl (C : Addr) (sp : Sp) (E : XK) : List V → Hp → VK → Prop := fun xs H Q => ∃ b dy gs, xs = [.ref b] ∧ H b = some (.ins C dy gs) ∧ sp [.ref b] H (fun v H' => ∃ k, v = .bl k ∧ Q (.bl k) H') E
theorem call_boolOwn (F : FnOk X.prog X.w X.K X.mg X.base CX n f fd ps sp) (hr : Room (n + 2) X.A) (hs : PySem.W.findIn X.K (.ref C) "__bool__" = some (some (.ref f))) (hf : PySem.W.isFn X.K (.ref f) = true)
    (hb : Binds X.K fd ps []) (hx : Passes CX X E) : CallR X (.type "bool") (rOwnBl C sp E) := by
  intro pins s σ H xs us Q I r h
  obtain ⟨b, dy, gs, rfl, hb', h⟩ := h
  rw [Vals.ref1 r]
  obtain ⟨mB, J', _⟩ := ins_get I.hok hb'
  obtain ⟨od', J', _⟩ := J'.look
  obtain ⟨m, hF⟩ := I.fr
  have sb : Sub X (n + 2) X.A := ⟨hr, rfl⟩
  refine PySem.W.ksb_call hF I.ok.mod.kin J' hs hf ?_
  refine thn (run_own (vs := [.ref b]) F sb.in1.in1 hb hx I (.cons rfl .nil) h) fun u s' q => ?_
  obtain ⟨z, H', I', rz, k, rfl, q⟩ := q
  cases rz
  exact ⟨.bl k, H', I', rfl, q⟩
/-- str(own object) by its __str__ -/
def rOwnSt (C : Addr) (sp : Sp) (E : XK) : List V → Hp → VK → Prop := fun xs H Q => ∃ b dy gs, xs = [.ref b] ∧ H b = some (.ins C dy gs) ∧ sp [.ref b] H (fun v H' => ∃ k, v = .str k ∧ Q (.str k) H') E
theorem call_strOwn (F : FnOk X.prog X.w X.K X.mg X.base CX n f fd ps sp) (hr : Room (n + 2) X.A) (hs : PySem.W.findIn X.K (.ref C) "__str__" = some (some (.ref f))) (hf : PySem.W.isFn X.K (.ref f) = true)
    (hb : Binds X.K fd ps []) (hx : Passes CX X E) : CallR X (.type "str") (rOwnSt C sp E) := by
  intro pins s σ H xs us Q I r h
  obtain ⟨b, dy, gs, rfl, hb', h⟩ := h
  rw [Vals.ref1 r]
  obtain ⟨mB, J', _⟩ := ins_get I.hok hb'
  obtain ⟨od', J', _⟩ := J'.look
  obtain ⟨m, hF⟩ := I.fr
  have sb : Sub X (n + 2) X.A := ⟨hr, rfl⟩
  refine PySem.W.kso_call sb.in1.in1.room.units0 (I.kIn) J' hs hf ?_
  refine thn (run_own (vs := [.ref b]) F sb.in1.in1 hb hx I (.cons rfl .nil) h) fun u s' q => ?_
  obtain ⟨z, H', I', rz, k, rfl, q⟩ := q
  obtain ⟨t, rfl⟩ := rz
  exact ⟨.str k, H', I', ⟨_, rfl⟩, q⟩
end
end L2
namespace L2
open PySem PySem.Spec PyProof.Rows
theorem kit_tyR {K : PySem.W.Frag} {C : Addr} {T : String} {r : Bool} (h : PySem.W.subIn K (.ref C) (.type T) = some r) (hm : PySem.W.kitMeta T = true) : PySem.W.kitOne K (.ref C) (.type T) = some r := by
  unfold PySem.W.kitOne
  split
  · rename_i z
    cases z
  · show (if PySem.W.kitMeta T = true then PySem.W.subIn K (.ref C) (.type T) else none) = some r
    rw [if_pos hm, h]
theorem kit_refF {K : PySem.W.Frag} {C B : Addr} (hs : PySem.W.subIn K (.ref C) (.ref C) = some true) (h : PySem.W.subIn K (.ref C) (.ref B) = some false) (h2 : PySem.W.isClsIn K B = true) (h3 : PySem.W.typeIn K (.ref B) = some (.type "type")) : PySem.W.kitOne K (.ref C) (.ref B) = some false := by
  unfold PySem.W.kitOne
  split
  · rename_i z
    have e : C = B := Value.ref.inj (beq_iff_eq.mp z)
    subst e
    rw [hs] at h
    cases h
  · show (if ((PySem.W.clsIn K B).isSome && PySem.W.typeIn K (.ref B) == some (.type "type")) = true then PySem.W.subIn K (.ref C) (.ref B) else none) = some false
    rw [show (PySem.W.clsIn K B).isSome = true from h2, h3, h]
    rfl
end L2

namespace K43
open PySem PySem.Spec PyProof.Rows L2
def topS (i : Nat) : Stmt := PySem.Challenge.pw_steppedtests_k43_ratios_built.main.body.getD i (.Pass ⟨0, 0, 0, 0⟩)
abbrev s_ZeroBottom_init : Stmt := inClass (topS 4) 0
abbrev N_ZeroBottom_init : List Str := ["self"]
abbrev P_ZeroBottom_init : List Str := ["self"]
theorem sc_ZeroBottom_init : FnScope N_ZeroBottom_init P_ZeroBottom_init (defScope s_ZeroBottom_init) := ⟨rfl, rfl, rfl, by decide +kernel, rfl, by decide +kernel, by decide +kernel⟩
abbrev s_Ratio_init : Stmt := inClass (topS 7) 0
abbrev N_Ratio_init : List Str := ["self", "top", "bottom", "shared"]
abbrev P_Ratio_init : List Str := ["self", "top", "bottom"]
theorem sc_Ratio_init : FnScope N_Ratio_init P_Ratio_init (defScope s_Ratio_init) := ⟨rfl, rfl, rfl, by decide +kernel, rfl, by decide +kernel, by decide +kernel⟩
abbrev s_Ratio_eq : Stmt := inClass (topS 7) 9
abbrev N_Ratio_eq : List Str := ["self", "other"]
abbrev P_Ratio_eq : List Str := ["self", "other"]
theorem sc_Ratio_eq : FnScope N_Ratio_eq P_Ratio_eq (defScope s_Ratio_eq) := ⟨rfl, rfl, rfl, by decide +kernel, rfl, by decide +kernel, by decide +kernel⟩
abbrev s_Ratio_bool : Stmt := inClass (topS 7) 14
abbrev N_Ratio_bool : List Str := ["self"]
abbrev P_Ratio_bool : List Str := ["self"]
theorem sc_Ratio_bool : FnScope N_Ratio_bool P_Ratio_bool (defScope s_Ratio_bool) := ⟨rfl, rfl, rfl, by decide +kernel, rfl, by decide +kernel, by decide +kernel⟩
abbrev s_Ratio_str : Stmt := inClass (topS 7) 15
abbrev N_Ratio_str : List Str := ["self"]
abbrev P_Ratio_str : List Str := ["self"]
theorem sc_Ratio_str : FnScope N_Ratio_str P_Ratio_str (defScope s_Ratio_str) := ⟨rfl, rfl, rfl, by decide +kernel, rfl, by decide +kernel, by decide +kernel⟩
abbrev s_l_pool : Stmt := topS 10
abbrev N_l_pool : List Str := ["_law_script", "_law_k", "_law_cell", "_law_big", "_law_mixed"]
abbrev P_l_pool : List Str := ["_law_script", "_law_k"]
theorem sc_l_pool : FnScope N_l_pool P_l_pool (defScope s_l_pool) := ⟨rfl, rfl, rfl, by decide +kernel, rfl, by decide +kernel, by decide +kernel⟩
abbrev s_l_take : Stmt := topS 11
abbrev N_l_take : List Str := ["_law_pool_here", "_law_bound", "_law_result"]
abbrev P_l_take : List Str := ["_law_pool_here", "_law_bound"]
theorem sc_l_take : FnScope N_l_take P_l_take (defScope s_l_take) := ⟨rfl, rfl, rfl, by decide +kernel, rfl, by decide +kernel, by decide +kernel⟩
abbrev s_l_number : Stmt := topS 12
abbrev N_l_number : List Str := ["_law_pool_here", "_law_most", "_law_number_here", "_law_turn"]
abbrev P_l_number : List Str := ["_law_pool_here", "_law_most"]
theorem sc_l_number : FnScope N_l_number P_l_number (defScope s_l_number) := ⟨rfl, rfl, rfl, by decide +kernel, rfl, by decide +kernel, by decide +kernel⟩
abbrev s_l_divisor : Stmt := topS 13
abbrev N_l_divisor : List Str := ["_law_one", "_law_two", "_law_turn"]
abbrev P_l_divisor : List Str := ["_law_one", "_law_two"]
theorem sc_l_divisor : FnScope N_l_divisor P_l_divisor (defScope s_l_divisor) := ⟨rfl, rfl, rfl, by decide +kernel, rfl, by decide +kernel, by decide +kernel⟩
abbrev s_l_is_ratio : Stmt := topS 14
abbrev N_l_is_ratio : List Str := ["_law_told", "_law_top", "_law_bottom", "_law_number_here"]
abbrev P_l_is_ratio : List Str := ["_law_told", "_law_top", "_law_bottom"]
theorem sc_l_is_ratio : FnScope N_l_is_ratio P_l_is_ratio (defScope s_l_is_ratio) := ⟨rfl, rfl, rfl, by decide +kernel, rfl, by decide +kernel, by decide +kernel⟩
abbrev s_l_built : Stmt := topS 15
abbrev N_l_built : List Str := ["_law_top", "_law_bottom", "e"]
abbrev P_l_built : List Str := ["_law_top", "_law_bottom"]
theorem sc_l_built : FnScope N_l_built P_l_built (defScope s_l_built) := ⟨rfl, rfl, rfl, by decide +kernel, rfl, by decide +kernel, by decide +kernel⟩
abbrev s_l_text : Stmt := topS 16
abbrev N_l_text : List Str := ["_law_top", "_law_bottom", "_law_divisor_here"]
abbrev P_l_text : List Str := ["_law_top", "_law_bottom"]
theorem sc_l_text : FnScope N_l_text P_l_text (defScope s_l_text) := ⟨rfl, rfl, rfl, by decide +kernel, rfl, by decide +kernel, by decide +kernel⟩
abbrev s_law : Stmt := topS 17
abbrev N_law : List Str := ["_law_script", "_law_k", "_law_pool_here", "_law_top", "_law_bottom", "_law_factor", "_law_ratio"]
abbrev P_law : List Str := ["_law_script"]
theorem sc_law : FnScope N_law P_law (defScope s_law) := ⟨rfl, rfl, rfl, by decide +kernel, rfl, by decide +kernel, by decide +kernel⟩
structure Ad where
  c_TestError : Addr
  c_ZeroBottom : Addr
  c_NoPupils : Addr
  c_Ratio : Addr
  f_ZeroBottom_init : Addr
  d_ZeroBottom_init : FuncData
  f_Ratio_init : Addr
  d_Ratio_init : FuncData
  f_Ratio_eq : Addr
  d_Ratio_eq : FuncData
  f_Ratio_bool : Addr
  d_Ratio_bool : FuncData
  f_Ratio_str : Addr
  d_Ratio_str : FuncData
  f_l_pool : Addr
  d_l_pool : FuncData
  f_l_take : Addr
  d_l_take : FuncData
  f_l_number : Addr
  d_l_number : FuncData
  f_l_divisor : Addr
  d_l_divisor : FuncData
  f_l_is_ratio : Addr
  d_l_is_ratio : FuncData
  f_l_built : Addr
  d_l_built : FuncData
  f_l_text : Addr
  d_l_text : FuncData
  f_law : Addr
  d_law : FuncData
  ds_Ratio_init : List Value
structure Txt (K : PySem.W.Frag) (mg : Str → Option Value) (a : Ad) : Prop where
  g_TestError : mg "TestError" = some (.ref a.c_TestError)
  g_ZeroBottom : mg "ZeroBottom" = some (.ref a.c_ZeroBottom)
  g_NoPupils : mg "NoPupils" = some (.ref a.c_NoPupils)
  g_Ratio : mg "Ratio" = some (.ref a.c_Ratio)
  cl_Ratio : Cls K a.c_Ratio
  mk_Ratio : Mk K a.c_Ratio a.f_Ratio_init
  nA_Ratio_top : NoAttr K a.c_Ratio "top"
  nA_Ratio_bottom : NoAttr K a.c_Ratio "bottom"
  ni_Ratio : PySem.W.subIn K (.ref a.c_Ratio) (.type "int") = some false
  ki_Ratio : PySem.W.kitOne K (.type "int") (.ref a.c_Ratio) = some false
  ic_Ratio : PySem.W.findIn K (.ref a.c_Ratio) "__class__" = some (some (.builtin "object.__class__")) ∧ PySem.W.specialIn K (.builtin "object.__class__") "__get__" = some (some (.builtin "getset_descriptor.__get__")) ∧ PySem.W.takesIn K (.builtin "object.__class__") = some true ∧ PySem.W.mroIn K a.c_Ratio (.type "object") = some true
  is_Ratio : PySem.W.kitOne K (.ref a.c_Ratio) (.ref a.c_Ratio) = some true
  bi_TestError : BaseI K a.c_TestError
  ox_ZeroBottom : OexC K a.c_ZeroBottom
  xf_ZeroBottom : XfC K a.c_ZeroBottom
  te_ZeroBottom : PySem.W.exmOne K (.ref a.c_ZeroBottom) (.ref a.c_ZeroBottom) = some true
  ek_ZeroBottom : PySem.W.ErrK K a.c_ZeroBottom
  ii_ZeroBottom : PySem.W.findIn K (.ref a.c_ZeroBottom) "__init__" = some (some (.ref a.f_ZeroBottom_init))
  ti_ZeroBottom : PySem.W.typeIn K (.ref a.f_ZeroBottom_init) = some (.type "function")
  kt_ZeroBottom : PySem.W.kitOne K (.ref a.c_ZeroBottom) (.ref a.c_TestError) = some true
  ks_ZeroBottom_ValueError : PySem.W.kitOne K (.ref a.c_ZeroBottom) (.type "ValueError") = some true
  ks_ZeroBottom_NoPupils : PySem.W.kitOne K (.ref a.c_ZeroBottom) (.ref a.c_NoPupils) = some false
  F_ZeroBottom_init : Fun K "__init__" "ZeroBottom.__init__" s_ZeroBottom_init a.f_ZeroBottom_init a.d_ZeroBottom_init
  b_ZeroBottom_init : Binds K a.d_ZeroBottom_init P_ZeroBottom_init []
  k_ZeroBottom_init : PySem.W.keepIn K (.ref a.f_ZeroBottom_init) = true
  i_ZeroBottom_init : PySem.W.isFn K (.ref a.f_ZeroBottom_init) = true
  F_Ratio_init : FunD K "__init__" "Ratio.__init__" (defArgs s_Ratio_init) (defBody s_Ratio_init) (defScope s_Ratio_init) [V.int 1] [] a.f_Ratio_init a.d_Ratio_init
  k_Ratio_init : PySem.W.keepIn K (.ref a.f_Ratio_init) = true
  i_Ratio_init : PySem.W.isFn K (.ref a.f_Ratio_init) = true
  vd_Ratio_init : Vals [V.int 1] a.ds_Ratio_init
  bd_Ratio_init : L2.Binds K a.d_Ratio_init P_Ratio_init a.ds_Ratio_init
  b_Ratio_init : L2.Binds K a.d_Ratio_init P_Ratio_init []
  F_Ratio_eq : Fun K "__eq__" "Ratio.__eq__" s_Ratio_eq a.f_Ratio_eq a.d_Ratio_eq
  b_Ratio_eq : Binds K a.d_Ratio_eq P_Ratio_eq []
  k_Ratio_eq : PySem.W.keepIn K (.ref a.f_Ratio_eq) = true
  i_Ratio_eq : PySem.W.isFn K (.ref a.f_Ratio_eq) = true
  s_Ratio_eq : PySem.W.findIn K (.ref a.c_Ratio) "__eq__" = some (some (.ref a.f_Ratio_eq))
  F_Ratio_bool : Fun K "__bool__" "Ratio.__bool__" s_Ratio_bool a.f_Ratio_bool a.d_Ratio_bool
  b_Ratio_bool : Binds K a.d_Ratio_bool P_Ratio_bool []
  k_Ratio_bool : PySem.W.keepIn K (.ref a.f_Ratio_bool) = true
  i_Ratio_bool : PySem.W.isFn K (.ref a.f_Ratio_bool) = true
  s_Ratio_bool : PySem.W.findIn K (.ref a.c_Ratio) "__bool__" = some (some (.ref a.f_Ratio_bool))
  F_Ratio_str : Fun K "__str__" "Ratio.__str__" s_Ratio_str a.f_Ratio_str a.d_Ratio_str
  b_Ratio_str : Binds K a.d_Ratio_str P_Ratio_str []
  k_Ratio_str : PySem.W.keepIn K (.ref a.f_Ratio_str) = true
  i_Ratio_str : PySem.W.isFn K (.ref a.f_Ratio_str) = true
  s_Ratio_str : PySem.W.findIn K (.ref a.c_Ratio) "__str__" = some (some (.ref a.f_Ratio_str))
  F_l_pool : Fun K "_law_pool" "_law_pool" s_l_pool a.f_l_pool a.d_l_pool
  b_l_pool : Binds K a.d_l_pool P_l_pool []
  k_l_pool : PySem.W.keepIn K (.ref a.f_l_pool) = true
  g_l_pool : mg "_law_pool" = some (.ref a.f_l_pool)
  F_l_take : Fun K "_law_take" "_law_take" s_l_take a.f_l_take a.d_l_take
  b_l_take : Binds K a.d_l_take P_l_take []
  k_l_take : PySem.W.keepIn K (.ref a.f_l_take) = true
  g_l_take : mg "_law_take" = some (.ref a.f_l_take)
  F_l_number : Fun K "_law_number" "_law_number" s_l_number a.f_l_number a.d_l_number
  b_l_number : Binds K a.d_l_number P_l_number []
  k_l_number : PySem.W.keepIn K (.ref a.f_l_number) = true
  g_l_number : mg "_law_number" = some (.ref a.f_l_number)
  F_l_divisor : Fun K "_law_divisor" "_law_divisor" s_l_divisor a.f_l_divisor a.d_l_divisor
  b_l_divisor : Binds K a.d_l_divisor P_l_divisor []
  k_l_divisor : PySem.W.keepIn K (.ref a.f_l_divisor) = true
  g_l_divisor : mg "_law_divisor" = some (.ref a.f_l_divisor)
  F_l_is_ratio : Fun K "_law_is_ratio" "_law_is_ratio" s_l_is_ratio a.f_l_is_ratio a.d_l_is_ratio
  b_l_is_ratio : Binds K a.d_l_is_ratio P_l_is_ratio []
  k_l_is_ratio : PySem.W.keepIn K (.ref a.f_l_is_ratio) = true
  g_l_is_ratio : mg "_law_is_ratio" = some (.ref a.f_l_is_ratio)
  F_l_built : Fun K "_law_built" "_law_built" s_l_built a.f_l_built a.d_l_built
  b_l_built : Binds K a.d_l_built P_l_built []
  k_l_built : PySem.W.keepIn K (.ref a.f_l_built) = true
  g_l_built : mg "_law_built" = some (.ref a.f_l_built)
  F_l_text : Fun K "_law_text" "_law_text" s_l_text a.f_l_text a.d_l_text
  b_l_text : Binds K a.d_l_text P_l_text []
  k_l_text : PySem.W.keepIn K (.ref a.f_l_text) = true
  g_l_text : mg "_law_text" = some (.ref a.f_l_text)
  F_law : Fun K "law" "law" s_law a.f_law a.d_law
  b_law : Binds K a.d_law P_law []
  k_law : PySem.W.keepIn K (.ref a.f_law) = true
  g_law : mg "law" = some (.ref a.f_law)
  gg_gcd : mg "gcd" = some (.builtin "math.gcd")
  z_ValueError : mg "ValueError" = none
  z_abs : mg "abs" = none
  z_bool : mg "bool" = none
  z_int : mg "int" = none
  z_isinstance : mg "isinstance" = none
  z_len : mg "len" = none
  z_max : mg "max" = none
  z_min : mg "min" = none
  z_range : mg "range" = none
  z_str : mg "str" = none
section
variable {P : Program} {w : World} {K : PySem.W.Frag} {mg : Str → Option Value} {base : Heap} {a : Ad}
theorem ok_ZeroBottom_init (T : Txt K mg a) : FnOk P w K mg base CX0 1 a.f_ZeroBottom_init a.d_ZeroBottom_init P_ZeroBottom_init (spErr0 a.c_ZeroBottom) := by
  refine T.F_ZeroBottom_init.ok sc_ZeroBottom_init (fun vs H Q E h => ?_) (fun cdv A outer s H vs Q E hr h => ?_)
  · obtain ⟨x, rfl, _⟩ := h
    rfl
  · obtain ⟨x, rfl, hx, k⟩ := h
    exact ⟨_, (pss_one (ps_expr (pe_binit T.bi_TestError (by rfl) T.g_TestError (pa_cons (pv 0) (pa_cons pe_str pa_nil))))), _, rfl, x, a.c_ZeroBottom, _, rfl, by show 1 ≤ 1000; decide, T.ox_ZeroBottom, hx, k⟩
theorem ok_Ratio_init (T : Txt K mg a) : FnOk P w K mg base (L2.CX P w) 3 a.f_Ratio_init a.d_Ratio_init P_Ratio_init (spRInitX a.c_Ratio a.c_ZeroBottom) := by
  refine T.F_Ratio_init.ok (CX := L2.CX P w) sc_Ratio_init (fun vs H Q E h => ?_) (fun cdv A outer s H vs Q E hr h => ?_)
  · obtain ⟨x, dx, p, q, rfl, _⟩ := h
    rfl
  · obtain ⟨x, dx, p, q, rfl, hx, sq, k, kx⟩ := h
    refine ⟨_, (Evl.pss_cut (ps_if (pt_cmpR op_eq (pv 2) pe_int (nomark _))
    (pss_one (ps_raise rfl (takes_of rfl rfl rfl rfl) (pmk_oex0 T.ox_ZeroBottom T.ii_ZeroBottom T.ti_ZeroBottom (ok_ZeroBottom_init T) (hr.mono (by decide)) T.b_ZeroBottom_init pass0 (by rfl) T.g_ZeroBottom)))
    pss_nil)
  (Evl.pss_cut (ps_set (i := 3) sc_Ratio_init.nd rfl (Or.inl rfl) (pe_ifExp (pt_cmpR op_gt (pv 2) pe_int (nomark _)) (pe_callBfun cr_gcd (by rfl) T.gg_gcd (pa_cons (pv 1) (pa_cons (pv 2) pa_nil))) (pe_un un_neg (pe_callBfun cr_gcd (by rfl) T.gg_gcd (pa_cons (pv 1) (pa_cons (pv 2) pa_nil))))))
  (Evl.pss_cut (ps_fld (pv 0) (pe_op op_fdivZ (pv 1) (pv 3)) rfl)
  (pss_one (ps_fld (pv 0) (pe_op op_fdivZ (pv 2) (pv 3)) rfl))))), ?_⟩
    refine ⟨fun σ H1 => σ = [some (.ref x), some (.int p), some (.int q), none] ∧ H1 = H ∧ q ≠ 0, ?_, ?_⟩
    · refine ⟨_, rfl, rfl, _, rfl, ?_⟩
      by_cases hq : q = 0
      · rw [show decide (V.int q = V.int 0) = true by simp [hq]]
        exact iteT (err_make0 (kx hq))
      · rw [show decide (V.int q = V.int 0) = false by simp; omega]
        exact iteF ⟨rfl, rfl, hq⟩
    rintro σ H1 ⟨rfl, rfl, hq⟩
    have k := k hq
    obtain ⟨g, hg⟩ : ∃ g : Nat, g = Nat.gcd p.natAbs q.natAbs := ⟨_, rfl⟩
    have g0 : 0 < g := by rw [hg]; exact Nat.gcd_pos_of_pos_right _ (by omega)
    have hd := nrm_div (p := p) (q := q) hq hg
    obtain ⟨sh, hsh⟩ : ∃ sh : Int, sh = (if 0 < q then (g : Int) else -(g : Int)) := ⟨_, rfl⟩
    rw [← hsh] at hd
    have sh0 : sh ≠ 0 := by rw [hsh]; split <;> omega
    have shg : sh.natAbs = g := by rw [hsh]; split <;> omega
    have d1 : sh ∣ p := Int.natAbs_dvd_natAbs.mp (by rw [shg, hg]; exact Nat.gcd_dvd_left _ _)
    have d2 : sh ∣ q := Int.natAbs_dvd_natAbs.mp (by rw [shg, hg]; exact Nat.gcd_dvd_right _ _)
    refine ⟨fun σ H2 => σ = [some (.ref x), some (.int p), some (.int q), some (.int sh)] ∧ H2 = H1, ?_, ?_⟩
    · refine ⟨_, rfl, _, _, rfl, rfl, _, rfl, ?_⟩
      by_cases h0 : 0 < q
      · rw [decide_eq_true h0]
        refine iteT ⟨_, rfl, _, rfl, _, _, rfl, ?_⟩
        rw [← hg, hsh, if_pos h0]
        exact ⟨rfl, rfl⟩
      · rw [decide_eq_false h0]
        refine iteF ⟨_, rfl, _, rfl, _, _, rfl, ?_⟩
        rw [← hg, hsh, if_neg h0]
        exact ⟨_, rfl, rfl, rfl⟩
    rintro σ H2 ⟨rfl, rfl⟩
    have hgq : g ≤ q.natAbs := by rw [hg]; exact Nat.le_of_dvd (by omega) (Nat.gcd_dvd_right _ _)
    have cd : ∀ i, CDivZ i sh := fun i => wide_divZ (i := i) (b := 900) sh0 (Nat.lt_of_le_of_lt (by rw [shg]; exact hgq) sq) (by decide) (by decide)
    have f1 : Int.fdiv p sh = p / sh := Int.fdiv_eq_ediv_of_dvd d1
    have f2 : Int.fdiv q sh = q / sh := Int.fdiv_eq_ediv_of_dvd d2
    refine ⟨fun σ H3 => σ = [some (.ref x), some (.int p), some (.int q), some (.int sh)] ∧ H3 x = some (.ins a.c_Ratio dx [("top", .int (p / sh))]) ∧ ∀ c u, c ≠ x → H2 c = some u → H3 c = some u, ?_, ?_⟩
    · exact ⟨_, rfl, _, rfl, _, _, rfl, rfl, cd _, _, rfl, x, _, dx, _, rfl, hx, T.cl_Ratio, T.nA_Ratio_top, by show 0 < 1000; decide, rfl, by rw [upd_same, putR1, ← f1], fun c u nc hc => by rw [upd_ne nc]; exact hc⟩
    rintro σ H3 ⟨rfl, hx3, k3⟩
    refine ⟨_, rfl, _, rfl, _, _, rfl, rfl, cd _, _, rfl, x, _, dx, _, rfl, hx3, T.cl_Ratio, T.nA_Ratio_bottom, by show 1 < 1000; decide, ?_⟩
    exact k _ _ _ ⟨dx, by rw [upd_same, putR2, ← f2]⟩ (fun c u nc hc => by rw [upd_ne nc]; exact k3 c u nc hc) hd (Int.natAbs_ediv_le_natAbs _ _) (Int.natAbs_ediv_le_natAbs _ _)
theorem nrm_eq {t1 b1 t2 b2 : Int} (h1 : Nrm t1 b1) (h2 : Nrm t2 b2) : (t1 = t2 ∧ b1 = b2) ↔ t1 * b2 = t2 * b1 := by
  constructor
  · rintro ⟨rfl, rfl⟩
    rfl
  · intro e
    obtain ⟨b10, g1⟩ := h1
    obtain ⟨b20, g2⟩ := h2
    have e2 := congrArg Int.natAbs e
    rw [Int.natAbs_mul, Int.natAbs_mul] at e2
    have d1 : b1.natAbs ∣ b2.natAbs := by
      have : b1.natAbs ∣ t1.natAbs * b2.natAbs := by rw [e2]; exact Nat.dvd_mul_left _ _
      exact (Nat.Coprime.symm (show Nat.Coprime t1.natAbs b1.natAbs from g1)).dvd_of_dvd_mul_left this
    have d2 : b2.natAbs ∣ b1.natAbs := by
      have : b2.natAbs ∣ t2.natAbs * b1.natAbs := by rw [← e2]; exact Nat.dvd_mul_left _ _
      exact (Nat.Coprime.symm (show Nat.Coprime t2.natAbs b2.natAbs from g2)).dvd_of_dvd_mul_left this
    have hb : b1 = b2 := by have := Nat.dvd_antisymm d1 d2; omega
    subst hb
    exact ⟨Int.eq_of_mul_eq_mul_right (by omega) e, rfl⟩
theorem ok_Ratio_eq (T : Txt K mg a) : FnOk P w K mg base CX0 3 a.f_Ratio_eq a.d_Ratio_eq P_Ratio_eq (spRCmp a.c_Ratio fun i j => decide (i = j)) := by
  refine T.F_Ratio_eq.ok sc_Ratio_eq (fun vs H Q E h => ?_) (fun cdv A outer s H vs Q E hr h => ?_)
  · obtain ⟨x, y, t1, b1, t2, b2, rfl, _⟩ := h
    rfl
  · obtain ⟨x, y, t1, b1, t2, b2, rfl, ⟨dx, hx⟩, hy, n1, n2, s1, s2, s3, s4, k⟩ := h
    refine ⟨_, (pss_cons (ps_if (pt_val (pe_callB call_isi (by rfl) T.z_isinstance (by decide +kernel) (pa_cons (pv 1) (pa_cons (pe_glob (v := .ref a.c_Ratio) (by rfl) T.g_Ratio rfl) pa_nil))))
    (pss_one (ps_ret (pe_and (pe_cmpR op_eq (pe_fld (pv 0) (by rfl)) (pe_fld (pv 1) (by rfl)) (nomark _)) (pe_one (pe_cmpR op_eq (pe_fld (pv 0) (by rfl)) (pe_fld (pv 1) (by rfl)) (nomark _))))))
    pss_nil)
  (pss_one (ps_ret (pe_and (pe_callB call_isi (by rfl) T.z_isinstance (by decide +kernel) (pa_cons (pv 1) (pa_cons (pe_bltn (v := .ty "int") (by rfl) T.z_int (by decide +kernel) rfl) pa_nil))) (pe_and (pe_cmpR op_eq (pe_fld (pv 0) (by rfl)) pe_int (nomark _)) (pe_one (pe_cmpR op_eq (pe_fld (pv 0) (by rfl)) (pv 1) (nomark _)))))))), ?_⟩
    have key := nrm_eq n1 n2
    have k := k H (Same.refl _)
    have fin : ∀ b : Bool, (b = true ↔ (t1 = t2 ∧ b1 = b2)) → Q (.bl b) H := fun b hb => by
      rw [show b = decide (t1 * b2 = t2 * b1) from by rw [Bool.eq_iff_iff, hb, decide_eq_true_eq]; exact key]
      exact k
    rcases id hy with ⟨rfl, rfl⟩ | ⟨z, rfl, dz, hz⟩
    · refine ⟨_, rfl, _, _, _, _, false, rfl, .own _, .base (.int _), T.ki_Ratio, _, rfl, iteF ?_⟩
      refine ⟨_, rfl, _, _, _, _, true, rfl, .ty _, .base (.int _), if_pos (beq_self_eq_true _), _, rfl, iteT ?_⟩
      refine ⟨_, rfl, x, _, dx, _, _, rfl, hx, T.cl_Ratio, T.nA_Ratio_bottom, rfl, rfl, _, rfl, ?_⟩
      by_cases hb : b1 = 1
      · rw [show decide (V.int b1 = V.int 1) = true by simp [hb]]
        refine iteT ⟨_, rfl, x, _, dx, _, _, rfl, hx, T.cl_Ratio, T.nA_Ratio_top, rfl, _, rfl, rfl, fin _ ?_⟩
        simp [hb]
      · rw [show decide (V.int b1 = V.int 1) = false by simp [hb]]
        exact iteF (fin _ (by simp [hb]))
    · refine ⟨_, rfl, _, .ref a.c_Ratio, _, _, true, rfl, .own _, .base (.ins hz T.cl_Ratio T.ic_Ratio.1 T.ic_Ratio.2.1 T.ic_Ratio.2.2.1 T.ic_Ratio.2.2.2), T.is_Ratio, _, rfl, iteT ?_⟩
      refine ⟨_, rfl, x, _, dx, _, _, rfl, hx, T.cl_Ratio, T.nA_Ratio_top, rfl, _, rfl, z, _, dz, _, _, rfl, hz, T.cl_Ratio, T.nA_Ratio_top, rfl, rfl, _, rfl, ?_⟩
      by_cases ht : t1 = t2
      · rw [show decide (V.int t1 = V.int t2) = true by simp [ht]]
        refine iteT ⟨_, rfl, x, _, dx, _, _, rfl, hx, T.cl_Ratio, T.nA_Ratio_bottom, rfl, _, rfl, z, _, dz, _, _, rfl, hz, T.cl_Ratio, T.nA_Ratio_bottom, rfl, rfl, fin _ ?_⟩
        simp [ht]
      · rw [show decide (V.int t1 = V.int t2) = false by simp [ht]]
        exact iteF (fin _ (by simp [ht]))
end
end K43

namespace K43
open PySem PySem.Spec PyProof.Rows L2
section
variable {P : Program} {w : World} {K : PySem.W.Frag} {mg : Str → Option Value} {base : Heap} {a : Ad}
theorem ok_l_divisor (T : Txt K mg a) : FnOk P w K mg base CX0 1 a.f_l_divisor a.d_l_divisor P_l_divisor spDv := by
  refine T.F_l_divisor.ok sc_l_divisor (fun vs H Q E h => ?_) (fun cdv A outer s H vs Q E hr h => ?_)
  · obtain ⟨i, j, rfl, _⟩ := h
    rfl
  · obtain ⟨i, j, rfl, si, sj, k⟩ := h
    refine ⟨_, (Evl.pss_cut (ps_par (i := 0) (j := 1) (by rfl) sc_l_divisor.nd rfl rfl (by decide) rfl rfl (pa_cons (pe_callB call_abs (by rfl) T.z_abs (by decide +kernel) (pa_cons (pv 0) pa_nil)) (pa_cons (pe_callB call_abs (by rfl) T.z_abs (by decide +kernel) (pa_cons (pv 1) pa_nil)) pa_nil)) (by rfl))
  (Evl.pss_cut (ps_for PassesOwn.never rfl (pi_range1 (by rfl) T.z_range (pa_cons pe_int pa_nil)) (pg_name (i := 2) sc_l_divisor.nd rfl (Or.inl rfl))
    (Evl.pss_cut (ps_if (pt_cmpR op_eq (pv 1) pe_int (nomark _))
    (pss_one ps_break)
    pss_nil)
  (pss_one (ps_par (i := 0) (j := 1) (by rfl) sc_l_divisor.nd rfl rfl (by decide) rfl rfl (pa_cons (pv 1) (pa_cons (pe_op op_mod (pe_callTy call_int1 (by rfl) T.z_int (by decide +kernel) (pa_cons (pv 0) pa_nil)) (pv 1)) pa_nil)) (by rfl)))))
  (pss_one (ps_ret (pv 0))))), ?_⟩
    obtain ⟨g, hg⟩ : ∃ g, g = Nat.gcd i.natAbs j.natAbs := ⟨_, rfl⟩
    rw [← hg] at k
    refine ⟨fun σ H1 => σ = [some (.int (i.natAbs : Nat)), some (.int (j.natAbs : Nat)), none] ∧ Same H H1, ?_, ?_⟩
    · refine ⟨_, rfl, _, rfl, _, rfl, _, rfl, _, _, rfl, ?_⟩
      have e (z : Int) : (if 0 ≤ z then z else -z) = (z.natAbs : Nat) := by split <;> omega
      have e2 (z : Int) : (if z < 0 then -z else z) = (z.natAbs : Nat) := by split <;> omega
      simp only [e, e2]
      exact ⟨rfl, Same.refl _⟩
    rintro σ H1 ⟨rfl, f1⟩
    refine ⟨fun σ H2 => ∃ v, σ = [some (.int (g : Nat)), some (.int 0), v] ∧ Same H H2, ?_, ?_⟩
    · refine ⟨_, rfl, by decide, by decide, ?_⟩
      refine for_range (lo := 0) (n := 2000) (fun r σ H2 => ∃ (m n : Nat) (v : Option V), σ = [some (.int (m : Nat)), some (.int (n : Nat)), v] ∧ Dv g r m n ∧ Same H H2) ⟨_, _, _, rfl, ⟨hg.symm, .inl ⟨rfl, si, sj⟩⟩, f1⟩ ?_ (fun σ H2 h => ?_)
      · rintro r σ H2 hr ⟨m, n, v, rfl, hd, f2⟩
        refine ⟨fun σ H3 => σ = [some (.int (m : Nat)), some (.int (n : Nat)), some (.int (0 + (r : Int)))] ∧ H3 = H2 ∧ n ≠ 0, ?_, ?_⟩
        · refine ⟨_, rfl, rfl, _, rfl, ?_⟩
          by_cases hn : n = 0
          · rw [show decide (V.int (n : Nat) = V.int 0) = true by simp [hn]]
            subst hn
            have : m = g := by rw [← hd.1, Nat.gcd_zero_right]
            subst this
            exact iteT ⟨_, rfl, f2⟩
          · rw [show decide (V.int (n : Nat) = V.int 0) = false by simp [hn]]
            exact iteF ⟨rfl, rfl, hn⟩
        rintro σ H3 ⟨rfl, rfl, hn⟩
        refine ⟨_, rfl, _, rfl, .inl ⟨_, rfl, _, rfl, _, _, rfl, rfl, by omega, _, _, rfl, ?_⟩⟩
        refine ⟨n, m % n, some (.int (0 + (r : Int))), ?_, hd.step hn, f2⟩
        rw [Int.natCast_emod]
        rfl
      · obtain ⟨m, n, v, rfl, hd, f2⟩ := h
        obtain rfl := hd.last
        have : m = g := by rw [← hd.1, Nat.gcd_zero_right]
        subst this
        exact ⟨_, rfl, f2⟩
    rintro σ H2 ⟨v, rfl, f2⟩
    exact ⟨_, rfl, k H2 f2⟩
theorem ok_l_is_ratio (T : Txt K mg a) : FnOk P w K mg base CX0 2 a.f_l_is_ratio a.d_l_is_ratio P_l_is_ratio (spIsR a.c_Ratio) := by
  refine T.F_l_is_ratio.ok sc_l_is_ratio (fun vs H Q E h => ?_) (fun cdv A outer s H vs Q E hr h => ?_)
  · obtain ⟨x, t, b, p, q, rfl, _⟩ := h
    rfl
  · obtain ⟨x, t, b, p, q, rfl, ⟨dx, hx⟩, hi, s1, s2, s3, s4, k⟩ := h
    refine ⟨_, (Evl.pss_cut (ps_if (pt_not (pt_val (pe_callB call_isi (by rfl) T.z_isinstance (by decide +kernel) (pa_cons (pv 0) (pa_cons (pe_glob (v := .ref a.c_Ratio) (by rfl) T.g_Ratio rfl) pa_nil)))))
    (pss_one (ps_ret pe_bl))
    pss_nil)
  (Evl.pss_cut (ps_for PassesOwn.never rfl (pi_list (pe_lst (pa_cons (pe_fld (pv 0) (by rfl)) (pa_cons (pe_fld (pv 0) (by rfl)) pa_nil)))) (pg_name (i := 3) sc_l_is_ratio.nd rfl (Or.inl rfl))
    (pss_one (ps_if (PW.pt (pw_or (pt_not (pt_val (pe_callB call_isi (by rfl) T.z_isinstance (by decide +kernel) (pa_cons (pv 3) (pa_cons (pe_bltn (v := .ty "int") (by rfl) T.z_int (by decide +kernel) rfl) pa_nil))))) (pw_or1 (pt_val (pe_callB call_isi (by rfl) T.z_isinstance (by decide +kernel) (pa_cons (pv 3) (pa_cons (pe_bltn (v := .ty "bool") (by rfl) T.z_bool (by decide +kernel) rfl) pa_nil)))))))
    (pss_one (ps_ret pe_bl))
    pss_nil)))
  (Evl.pss_cut (ps_if (PW.pt (pw_or (pt_cmpR op_lt (pe_fld (pv 0) (by rfl)) pe_int (nomark _)) (pw_or1 (pt_cmpR op_ne (pe_call (ok_l_divisor T) (hr.mono (by decide)) (by rfl) T.g_l_divisor T.k_l_divisor T.b_l_divisor .nil pass0 (pa_cons (pe_fld (pv 0) (by rfl)) (pa_cons (pe_fld (pv 0) (by rfl)) pa_nil))) pe_int (nomark _)))))
    (pss_one (ps_ret pe_bl))
    pss_nil)
  (pss_one (ps_ret (pe_cmpR op_eq (pe_op op_mulW (pe_fld (pv 0) (by rfl)) (pv 2)) (pe_op op_mulW (pv 1) (pe_fld (pv 0) (by rfl))) (nomark _))))))), ?_⟩
    refine ⟨fun σ H1 => σ = [some (.ref x), some (.int p), some (.int q), none] ∧ H1 = H, ?_, ?_⟩
    · exact ⟨_, rfl, _, .ref a.c_Ratio, _, _, true, rfl, .own _, .base (.ins hx T.cl_Ratio T.ic_Ratio.1 T.ic_Ratio.2.1 T.ic_Ratio.2.2.1 T.ic_Ratio.2.2.2), T.is_Ratio, _, rfl, iteF ⟨rfl, rfl⟩⟩
    rintro σ H1 ⟨rfl, rfl⟩
    refine ⟨fun σ H2 => ∃ v, σ = [some (.ref x), some (.int p), some (.int q), v] ∧ Same H1 H2, ?_, ?_⟩
    · refine ⟨_, rfl, x, _, dx, _, _, rfl, hx, T.cl_Ratio, T.nA_Ratio_top, rfl, _, rfl, x, _, dx, _, _, rfl, hx, T.cl_Ratio, T.nA_Ratio_bottom, rfl, by show 2 ≤ sizeLine; decide, fun L nL => ?_⟩
      refine ⟨L, rfl, ⟨_, lst_of upd_same⟩, for_list (K := K) (a := L) (xs := [.int t, .int b]) (fun j σ H2 => ∃ v, σ = [some (.ref x), some (.int p), some (.int q), v] ∧ Same H1 H2 ∧ H2 L = some (.lst [.int t, .int b])) ⟨_, rfl, same_upd nL, upd_same⟩ (fun j σ H2 _ ⟨_, _, _, h⟩ => lst_of h) ?_ ?_⟩
      · rintro j y σ H2 hj ⟨v, rfl, f2, hL⟩
        obtain ⟨z, rfl⟩ : ∃ z, y = V.int z := by
          match j, hj with
          | 0, h => exact ⟨t, (Option.some.inj h).symm⟩
          | 1, h => exact ⟨b, (Option.some.inj h).symm⟩
        exact ⟨_, rfl, _, _, _, _, true, rfl, .ty _, .base (.int _), if_pos (beq_self_eq_true _), _, rfl, iteF ⟨_, rfl, _, _, _, _, false, rfl, .ty _, .base (.int _), kit_ty (by decide +kernel), _, rfl, iteF ⟨_, rfl, f2, hL⟩⟩⟩
      · rintro σ H2 ⟨v, rfl, f2, hL⟩
        exact ⟨_, rfl, f2⟩
    rintro σ H2 ⟨v, rfl, f2⟩
    have hx2 := f2 _ _ hx
    refine ⟨fun σ H3 => ∃ v, σ = [some (.ref x), some (.int p), some (.int q), v] ∧ Same H1 H3, ?_, ?_⟩
    · refine ⟨_, rfl, x, _, dx, _, _, rfl, hx2, T.cl_Ratio, T.nA_Ratio_bottom, rfl, _, _, rfl, rfl, _, rfl, ?_⟩
      rw [decide_eq_false (show ¬ b < 1 by have := hi.1.1; omega)]
      refine iteF ⟨_, rfl, x, _, dx, _, _, rfl, hx2, T.cl_Ratio, T.nA_Ratio_top, rfl, _, rfl, x, _, dx, _, _, rfl, hx2, T.cl_Ratio, T.nA_Ratio_bottom, rfl, t, b, rfl, s1.mono (by decide), s2.mono (by decide), fun H3 f3 => ⟨rfl, _, rfl, ?_⟩⟩
      rw [hi.1.2]
      exact iteF ⟨_, rfl, f2.trans f3⟩
    rintro σ H3 ⟨v, rfl, f3⟩
    have hx3 := f3 _ _ hx
    refine ⟨_, rfl, x, _, dx, _, _, rfl, hx3, T.cl_Ratio, T.nA_Ratio_top, rfl, _, rfl, _, _, rfl, rfl, s1.mulW s4 (by decide), _, rfl, _, rfl, x, _, dx, _, _, rfl, hx3, T.cl_Ratio, T.nA_Ratio_bottom, rfl, _, _, rfl, rfl, s3.mulW s2 (by decide), rfl, ?_⟩
    rw [show decide (V.int (t * q) = V.int (p * b)) = true by rw [hi.2]; simp]
    exact k H3 f3
end
end K43

namespace K43
open PySem PySem.Spec PyProof.Rows L2
section
variable {P : Program} {w : World} {K : PySem.W.Frag} {mg : Str → Option Value} {base : Heap} {a : Ad}
/-- the pool of one script number -/
def PlAt (H : Hp) (p : Addr) : Prop := ∃ b m : Int, H p = some (.lst [.int b, .int m]) ∧ 0 ≤ m ∧ m < 2147483647
def spPl (K : PySem.W.Frag) : Sp := fun vs H Q _ => ∃ (x : Addr) (ns : List Int) (k : Nat), vs = [.ref x, .int (k : Int)] ∧ SqL K H x (ns.map V.int) ∧ k < 100 ∧ ∀ p b m, H p = none → 0 ≤ m → m < 2147483647 → Q (.ref p) (upd H p (.lst [.int b, .int m]))
theorem ok_l_pool (T : Txt K mg a) : FnOk P w K mg base CX0 1 a.f_l_pool a.d_l_pool P_l_pool (spPl K) := by
  refine T.F_l_pool.ok sc_l_pool (fun vs H Q E h => ?_) (fun cdv A outer s H vs Q E hr h => ?_)
  · obtain ⟨x, ns, k, rfl, _⟩ := h
    rfl
  · obtain ⟨x, ns, kk, rfl, hx, hk, k⟩ := h
    refine ⟨_, (Evl.pss_cut (ps_set (i := 2) sc_l_pool.nd rfl (Or.inl rfl) pe_int)
  (Evl.pss_cut (ps_if (pt_cmpR op_lt (pv 1) (pe_callB call_len_seq (by rfl) T.z_len (by decide +kernel) (pa_cons (pv 0) pa_nil)) (nomark _))
    (pss_one (ps_set (i := 2) sc_l_pool.nd rfl (Or.inl rfl) (pe_ix ix_list (pv 0) (pv 1) (by intro _ _; rfl))))
    pss_nil)
  (Evl.pss_cut (ps_set (i := 3) sc_l_pool.nd rfl (Or.inl rfl) (pe_callB (call_max2 rfl) (by rfl) T.z_max (by decide +kernel) (pa_cons (pe_callTy call_int1 (by rfl) T.z_int (by decide +kernel) (pa_cons (pv 2) pa_nil)) (pa_cons (pe_callTy call_int1 (by rfl) T.z_int (by decide +kernel) (pa_cons (pe_op op_sub (pe_un un_neg pe_int) (pv 2)) pa_nil)) pa_nil))))
  (Evl.pss_cut (ps_set (i := 4) sc_l_pool.nd rfl (Or.inl rfl) (pe_op op_mod (pe_callTy call_int1 (by rfl) T.z_int (by decide +kernel) (pa_cons (pe_op op_mul (pe_op op_add (pe_op op_add (pe_op op_add (pe_op op_mod (pe_callTy call_int1 (by rfl) T.z_int (by decide +kernel) (pa_cons (pv 3) pa_nil)) pe_int) (pe_op op_mul (pe_op op_mul pe_int (pv 1)) (pv 1))) (pe_op op_mul pe_int (pv 1))) pe_int) pe_int) pa_nil)) pe_int))
  (pss_one (ps_ret (pe_lst (pa_cons (pe_op op_mul (pv 3) (pe_callTy call_int1 (by rfl) T.z_int (by decide +kernel) (pa_cons (pe_cmpR op_ge (pv 3) (pe_op op_pow pe_int pe_int) (nomark _)) pa_nil))) (pa_cons (pv 4) pa_nil))))))))), ?_⟩
    refine ⟨fun σ H1 => σ = [some (.ref x), some (.int (kk : Int)), some (.int 0), none, none] ∧ H1 = H, ⟨rfl, rfl⟩, ?_⟩
    rintro σ H1 ⟨rfl, rfl⟩
    refine ⟨fun σ H2 => ∃ c : Int, σ = [some (.ref x), some (.int (kk : Int)), some (.int c), none, none] ∧ H2 = H1, ?_, ?_⟩
    · refine ⟨_, rfl, _, rfl, x, _, rfl, .inl hx, _, _, rfl, rfl, _, rfl, ite2 (fun h => ?_) (fun h => ⟨0, rfl, rfl⟩)⟩
      have h : (kk : Int) < ((ns.map V.int).length : Nat) := of_decide_eq_true h
      rw [List.length_map] at h
      have hl : kk < ns.length := by omega
      exact ⟨_, rfl, _, rfl, x, _, (kk : Int), _, rfl, rfl, hx, atI_nat (by rw [List.getElem?_map, List.getElem?_eq_getElem hl]; rfl), ns[kk], rfl, rfl⟩
    rintro σ H2 ⟨c, rfl, rfl⟩
    refine ⟨fun σ H3 => ∃ g : Int, σ = [some (.ref x), some (.int (kk : Int)), some (.int c), some (.int g), none] ∧ H3 = H2, ?_, ?_⟩
    · exact ⟨_, rfl, .inl ⟨_, rfl, _, rfl, _, rfl, _, _, rfl, rfl, .inl ⟨_, rfl, _, _, rfl, _, rfl, rfl⟩⟩⟩
    rintro σ H3 ⟨g, rfl, rfl⟩
    refine ⟨fun σ H4 => ∃ m : Int, 0 ≤ m ∧ m < 2147483647 ∧ σ = [some (.ref x), some (.int (kk : Int)), some (.int c), some (.int g), some (.int m)] ∧ H4 = H3, ?_, ?_⟩
    · refine ⟨_, rfl, .inl ⟨_, rfl, _, 2147483629, rfl, rfl, (by show (0 : Int) < 2147483629; decide), _, rfl, _, _, rfl, rfl, .inr ⟨by omega, by omega⟩, _, rfl, _, _, rfl, rfl, .inr ⟨by omega, by omega⟩, _, _, rfl, rfl, _, rfl, _, _, rfl, rfl, .inr ⟨by omega, by omega⟩, _, _, rfl, rfl, _, _, rfl, rfl, _, 48271, rfl, rfl, .inr ⟨by decide, by decide⟩, .inl ⟨_, rfl, _, 2147483647, rfl, rfl, (by show (0 : Int) < 2147483647; decide), ?_⟩⟩⟩
      exact ⟨_, Int.emod_nonneg _ (by decide), Int.emod_lt_of_pos _ (by decide), rfl, rfl⟩
    rintro σ H4 ⟨m, m0, m1, rfl, rfl⟩
    refine ⟨_, rfl, _, rfl, _, 18, rfl, rfl, ⟨by decide, by decide, by decide⟩, _, _, rfl, rfl, .inr ⟨_, rfl, _, _, rfl, rfl, .inr ⟨?_, ?_⟩, _, rfl, by show 2 ≤ sizeLine; decide, fun p np => k p _ m np m0 m1⟩⟩
    · split <;> decide
    · split <;> decide
def spTk : Sp := fun vs H Q _ => ∃ (p : Addr) (b : Int), vs = [.ref p, .int b] ∧ PlAt H p ∧ 0 < b ∧ b < 2 ^ 200 ∧ ∀ H' r, (∀ c u, c ≠ p → H c = some u → H' c = some u) → PlAt H' p → 0 ≤ r → r < b → Q (.int r) H'
theorem ok_l_take (T : Txt K mg a) : FnOk P w K mg base CX0 1 a.f_l_take a.d_l_take P_l_take spTk := by
  refine T.F_l_take.ok sc_l_take (fun vs H Q E h => ?_) (fun cdv A outer s H vs Q E hr h => ?_)
  · obtain ⟨p, b, rfl, _⟩ := h
    rfl
  · obtain ⟨p, lim, rfl, ⟨b, m, hp, m0, m1⟩, l0, l1, k⟩ := h
    refine ⟨_, (Evl.pss_cut (ps_if (pt_cmpR op_gt (pe_ix ix_list (pv 0) pe_int (by intro _ _; rfl)) pe_int (nomark _))
    (pss_cons (ps_set (i := 2) sc_l_take.nd rfl (Or.inl rfl) (pe_op op_mod (pe_callTy call_int1 (by rfl) T.z_int (by decide +kernel) (pa_cons (pe_ix ix_list (pv 0) pe_int (by intro _ _; rfl)) pa_nil)) (pv 1)))
  (pss_cons (ps_asg (pe_op op_fdivW (pe_ix ix_list (pv 0) pe_int (by intro _ _; rfl)) (pv 1)) (pg_sub (pv 0) pe_int set_list))
  (pss_one (ps_ret (pv 2)))))
    pss_nil)
  (Evl.pss_cut (ps_asg (pe_op op_mod (pe_callTy call_int1 (by rfl) T.z_int (by decide +kernel) (pa_cons (pe_op op_add (pe_op op_mul (pe_ix ix_list (pv 0) pe_int (by intro _ _; rfl)) pe_int) pe_int) pa_nil)) pe_int) (pg_sub (pv 0) pe_int set_list))
  (pss_one (ps_ret (pe_op op_mod (pe_callTy call_int1 (by rfl) T.z_int (by decide +kernel) (pa_cons (pe_op op_fdivW (pe_op op_mod (pe_callTy call_int1 (by rfl) T.z_int (by decide +kernel) (pa_cons (pe_op op_mul (pe_ix ix_list (pv 0) pe_int (by intro _ _; rfl)) (pe_ix ix_list (pv 0) pe_int (by intro _ _; rfl))) pa_nil)) pe_int) pe_int) pa_nil)) (pv 1)))))), ?_⟩
    have wd : ∀ i, CDivW i lim := fun i => wide_div (i := i) (b := 200) l0 (by omega) (by decide) (by decide)
    refine ⟨fun σ H1 => σ = [some (.ref p), some (.int lim), none] ∧ H1 = H, ?_, ?_⟩
    · refine ⟨_, rfl, p, _, 0, _, rfl, rfl, lst_of hp, rfl, _, _, rfl, rfl, _, rfl, ite2 (fun h => ?_) (fun h => ⟨rfl, rfl⟩)⟩
      refine ⟨_, rfl, p, _, 0, _, rfl, rfl, lst_of hp, rfl, .inl ⟨_, rfl, _, rfl, _, _, rfl, rfl, l0, ?_⟩⟩
      refine ⟨_, rfl, p, _, 0, _, rfl, rfl, lst_of hp, rfl, _, rfl, _, _, rfl, rfl, wd _, _, rfl, p, _, 0, 0, rfl, rfl, hp, rfl, ?_⟩
      exact ⟨_, rfl, k _ _ (fun c u nc hc => by rw [upd_ne nc]; exact hc) ⟨_, m, upd_same, m0, m1⟩ (Int.emod_nonneg _ (by omega)) (Int.emod_lt_of_pos _ l0)⟩
    rintro σ H1 ⟨rfl, rfl⟩
    refine ⟨fun σ H2 => ∃ m' : Int, 0 ≤ m' ∧ m' < 2147483647 ∧ σ = [some (.ref p), some (.int lim), none] ∧ H2 = upd H1 p (.lst [.int b, .int m']), ?_, ?_⟩
    · refine ⟨_, rfl, p, _, 1, _, rfl, rfl, lst_of hp, rfl, _, 39373, rfl, rfl, .inr ⟨by decide, by decide⟩, _, _, rfl, rfl, .inl ⟨_, rfl, _, 2147483647, rfl, rfl, (by show (0 : Int) < 2147483647; decide), _, rfl, p, _, 1, 1, rfl, rfl, hp, rfl, ?_⟩⟩
      exact ⟨_, Int.emod_nonneg _ (by decide), Int.emod_lt_of_pos _ (by decide), rfl, rfl⟩
    rintro σ H2 ⟨m', m0', m1', rfl, rfl⟩
    have hp2 : upd H1 p (.lst [.int b, .int m']) p = some (.lst [.int b, .int m']) := upd_same
    refine ⟨_, rfl, p, _, 1, _, rfl, rfl, lst_of hp2, rfl, _, rfl, p, _, 1, _, rfl, rfl, lst_of hp2, rfl, _, _, rfl, rfl, .inl ⟨by omega, by omega⟩, .inl ⟨_, rfl, _, 2147483629, rfl, rfl, (by show (0 : Int) < 2147483629; decide), _, 32, rfl, rfl, ⟨by decide, by decide⟩, .inl ⟨_, rfl, _, rfl, _, _, rfl, rfl, l0, ?_⟩⟩⟩
    exact k _ _ (fun c u nc hc => by rw [upd_ne nc]; exact hc) ⟨_, _, hp2, m0', m1'⟩ (Int.emod_nonneg _ (by omega)) (Int.emod_lt_of_pos _ l0)
def spNm : Sp := fun vs H Q _ => ∃ (p : Addr) (mo : Int), vs = [.ref p, .int mo] ∧ PlAt H p ∧ 3 ≤ mo ∧ mo < 2 ^ 130 ∧ ∀ H' r, (∀ c u, c ≠ p → H c = some u → H' c = some u) → PlAt H' p → -mo ≤ r → r ≤ mo → Q (.int r) H'
theorem ok_l_number (T : Txt K mg a) : FnOk P w K mg base CX0 3 a.f_l_number a.d_l_number P_l_number spNm := by
  refine T.F_l_number.ok sc_l_number (fun vs H Q E h => ?_) (fun cdv A outer s H vs Q E hr h => ?_)
  · obtain ⟨p, mo, rfl, _⟩ := h
    rfl
  · obtain ⟨p, mo, rfl, hp, m3, m4, k⟩ := h
    refine ⟨_, (Evl.pss_cut (ps_if (pt_cmpR op_gt (pe_call (ok_l_take T) (hr.mono (by decide)) (by rfl) T.g_l_take T.k_l_take T.b_l_take .nil pass0 (pa_cons (pv 0) (pa_cons pe_int pa_nil))) pe_int (nomark _))
    (pss_one (ps_ret (pe_op op_sub (pe_call (ok_l_take T) (hr.mono (by decide)) (by rfl) T.g_l_take T.k_l_take T.b_l_take .nil pass0 (pa_cons (pv 0) (pa_cons pe_int pa_nil))) pe_int)))
    pss_nil)
  (Evl.pss_cut (ps_set (i := 2) sc_l_number.nd rfl (Or.inl rfl) pe_int)
  (Evl.pss_cut (ps_for PassesOwn.never rfl (pi_range1 (by rfl) T.z_range (pa_cons pe_int pa_nil)) (pg_name (i := 3) sc_l_number.nd rfl (Or.inl rfl))
    (pss_one (ps_set (i := 2) sc_l_number.nd rfl (Or.inl rfl) (pe_op op_add (pe_op op_mulW (pv 2) (pe_op op_pow pe_int pe_int)) (pe_call (ok_l_take T) (hr.mono (by decide)) (by rfl) T.g_l_take T.k_l_take T.b_l_take .nil pass0 (pa_cons (pv 0) (pa_cons (pe_op op_pow pe_int pe_int) pa_nil)))))))
  (pss_one (ps_ret (pe_op op_sub (pe_op op_mod (pe_callTy call_int1 (by rfl) T.z_int (by decide +kernel) (pa_cons (pv 2) pa_nil)) (pe_op op_add (pe_op op_mulW pe_int (pv 1)) pe_int)) (pv 1))))))), ?_⟩
    refine ⟨fun σ H1 => σ = [some (.ref p), some (.int mo), none, none] ∧ (∀ c u, c ≠ p → H c = some u → H1 c = some u) ∧ PlAt H1 p, ?_, ?_⟩
    · refine ⟨_, rfl, p, 4, rfl, hp, by decide, by decide, fun H1 r f1 p1 r0 r1 => ⟨_, _, rfl, rfl, _, rfl, ite2 (fun h => ?_) (fun h => ⟨rfl, f1, p1⟩)⟩⟩
      exact ⟨_, rfl, p, 7, rfl, p1, by decide, by decide, fun H2 r2 f2 p2 r20 r21 => ⟨_, _, rfl, rfl, k H2 _ (fun c u nc hc => f2 c u nc (f1 c u nc hc)) p2 (by omega) (by omega)⟩⟩
    rintro σ H1 ⟨rfl, f1, p1⟩
    refine ⟨fun σ H2 => σ = [some (.ref p), some (.int mo), some (.int 0), none] ∧ H2 = H1, ⟨rfl, rfl⟩, ?_⟩
    rintro σ H2 ⟨rfl, rfl⟩
    refine ⟨fun σ H3 => ∃ (z : Int) (v : Option V), σ = [some (.ref p), some (.int mo), some (.int z), v] ∧ (∀ c u, c ≠ p → H c = some u → H3 c = some u) ∧ PlAt H3 p, ?_, ?_⟩
    · refine ⟨_, rfl, by decide, by decide, ?_⟩
      refine for_range (lo := 0) (n := 6) (fun i σ H3 => ∃ (z : Int) (v : Option V), σ = [some (.ref p), some (.int mo), some (.int z), v] ∧ Sz (27 * i + 1) z ∧ (∀ c u, c ≠ p → H c = some u → H3 c = some u) ∧ PlAt H3 p) ⟨0, _, rfl, by unfold Sz; decide, f1, p1⟩ ?_ (fun σ H3 ⟨z, v, h1, _, h2, h3⟩ => ⟨z, v, h1, h2, h3⟩)
      rintro i σ H3 hi ⟨z, v, rfl, hz, f3, p3⟩
      refine ⟨_, rfl, _, 26, rfl, rfl, ⟨by decide, by decide, by decide⟩, _, _, rfl, rfl, hz.mulW (l := 27) (j := 2 ^ 26) (by unfold Sz; decide) (by omega), _, rfl, _, 26, rfl, rfl, ⟨by decide, by decide, by decide⟩, p, 2 ^ 26, rfl, p3, by decide, by decide, fun H4 r f4 p4 r0 r1 => ⟨_, _, rfl, rfl, ?_⟩⟩
      refine ⟨_, _, rfl, ?_, fun c u nc hc => f4 c u nc (f3 c u nc hc), p4⟩
      unfold Sz at *
      show (z * 2 ^ 26 + r).natAbs < 2 ^ (27 * (i + 1) + 1)
      rw [show 27 * (i + 1) + 1 = 27 * i + 1 + 27 by omega, Nat.pow_add]
      have h1 := Int.natAbs_add_le (z * 2 ^ 26) r
      rw [Int.natAbs_mul] at h1
      have h2 : r.natAbs < 2 ^ 26 := by omega
      have h3 : ((2 : Int) ^ 26).natAbs = 2 ^ 26 := by decide
      rw [h3] at h1
      have h4 : z.natAbs * 2 ^ 26 + 2 ^ 26 ≤ 2 ^ (27 * i + 1) * 2 ^ 26 := by
        rw [← Nat.succ_mul]
        exact Nat.mul_le_mul_right _ hz
      have h5 : 2 ^ (27 * i + 1) * 2 ^ 26 ≤ 2 ^ (27 * i + 1) * 2 ^ 27 := Nat.mul_le_mul_left _ (by decide)
      omega
    rintro σ H3 ⟨z, v, rfl, f3, p3⟩
    refine ⟨_, rfl, .inl ⟨_, rfl, _, rfl, _, _, rfl, rfl, wide_mul (a := 2) (b := 131) (by decide) (by omega) (by decide) (by decide) (by decide), _, _, rfl, rfl, _, _, rfl, rfl, by omega, _, rfl, _, _, rfl, rfl, ?_⟩⟩
    have h1 := Int.emod_nonneg z (show 2 * mo + 1 ≠ 0 by omega)
    have h2 := Int.emod_lt_of_pos z (show 0 < 2 * mo + 1 by omega)
    exact k H3 _ f3 p3 (by omega) (by omega)
end
end K43

namespace K43
open PySem PySem.Spec PyProof.Rows L2
section
variable {P : Program} {w : World} {K : PySem.W.Frag} {mg : Str → Option Value} {base : Heap} {a : Ad}
theorem isR_eq {t b p q t' b' p' q' : Int} (h : IsR t b p q) (h' : IsR t' b' p' q') (hq : q ≠ 0) (hq' : q' ≠ 0) : t * b' = t' * b ↔ p * q' = p' * q := by
  have e := h.2
  have e' := h'.2
  have b0 := Int.ne_of_gt h.1.1
  have b0' := Int.ne_of_gt h'.1.1
  constructor
  · intro z
    exact Int.eq_of_mul_eq_mul_right b0 (Int.eq_of_mul_eq_mul_right b0' (by grind))
  · intro z
    exact Int.eq_of_mul_eq_mul_right hq (Int.eq_of_mul_eq_mul_right hq' (by grind))
theorem isR_uniq {t b p q t' b' : Int} (h : IsR t b p q) (h' : IsR t' b' p q) (hq : q ≠ 0) : t = t' ∧ b = b' := (nrm_eq h.1 h'.1).mpr ((isR_eq h h' hq hq).mpr rfl)
def rtxt (t b : Int) : Str := if b = 1 then (Str.ofString (toString t)) else (Str.ofString (toString t) ++ Str.ofString "/") ++ Str.ofString (toString b)
def spRBl (C : Addr) : Sp := fun vs H Q _ => ∃ (x : Addr) (t b : Int), vs = [.ref x] ∧ RatAt C H x t b ∧ Q (.bl (!decide (V.int t = V.int 0))) H
theorem ok_Ratio_bool (T : Txt K mg a) : FnOk P w K mg base CX0 1 a.f_Ratio_bool a.d_Ratio_bool P_Ratio_bool (spRBl a.c_Ratio) := by
  refine T.F_Ratio_bool.ok sc_Ratio_bool (fun vs H Q E h => ?_) (fun cdv A outer s H vs Q E hr h => ?_)
  · obtain ⟨x, t, b, rfl, _⟩ := h
    rfl
  · obtain ⟨x, t, b, rfl, ⟨dx, hx⟩, k⟩ := h
    refine ⟨_, (pss_one (ps_ret (pe_callTy call_bool1 (by rfl) T.z_bool (by decide +kernel) (pa_cons (pe_cmpR op_ne (pe_fld (pv 0) (by rfl)) pe_int (nomark _)) pa_nil)))), ?_⟩
    exact ⟨_, rfl, x, _, dx, _, _, rfl, hx, T.cl_Ratio, T.nA_Ratio_top, rfl, rfl, .inr ⟨_, rfl, k⟩⟩
def spRSt (C : Addr) : Sp := fun vs H Q _ => ∃ (x : Addr) (t b : Int), vs = [.ref x] ∧ RatAt C H x t b ∧ Bd t ∧ Bd b ∧ Q (.str (rtxt t b)) H
theorem ok_Ratio_str (T : Txt K mg a) : FnOk P w K mg base CX0 1 a.f_Ratio_str a.d_Ratio_str P_Ratio_str (spRSt a.c_Ratio) := by
  refine T.F_Ratio_str.ok sc_Ratio_str (fun vs H Q E h => ?_) (fun cdv A outer s H vs Q E hr h => ?_)
  · obtain ⟨x, t, b, rfl, _⟩ := h
    rfl
  · obtain ⟨x, t, b, rfl, ⟨dx, hx⟩, bt, bb, k⟩ := h
    refine ⟨_, (pss_cons (ps_if (pt_cmpR op_eq (pe_fld (pv 0) (by rfl)) pe_int (nomark _))
    (pss_one (ps_ret (pe_callTy call_str_int (by rfl) T.z_str (by decide +kernel) (pa_cons (pe_fld (pv 0) (by rfl)) pa_nil))))
    pss_nil)
  (pss_one (ps_ret (pe_joined (PJ.cons (pe_fmt (pe_fld (pv 0) (by rfl))) (PJ.cons pe_str (PJ.cons (pe_fmt (pe_fld (pv 0) (by rfl))) PJ.nil))))))), ?_⟩
    have l1 := bt.len
    have l2 := bb.len
    have c0 : Str.empty.length = 0 := rfl
    have c1 : (PySem.Str.ofString "/").length = 1 := by rw [PySem.ofString_length]; rfl
    refine ⟨_, rfl, x, _, dx, _, _, rfl, hx, T.cl_Ratio, T.nA_Ratio_bottom, rfl, rfl, _, rfl, ?_⟩
    by_cases hb : b = 1
    · rw [show decide (V.int b = V.int 1) = true by simp [hb]]
      refine iteT ⟨_, rfl, x, _, dx, _, _, rfl, hx, T.cl_Ratio, T.nA_Ratio_top, rfl, t, rfl, bt.log, ?_⟩
      unfold rtxt at k
      rw [if_pos hb] at k
      exact k
    · rw [show decide (V.int b = V.int 1) = false by simp [hb]]
      refine iteF ⟨_, rfl, x, _, dx, _, _, rfl, hx, T.cl_Ratio, T.nA_Ratio_top, rfl, .inr ⟨t, rfl, bt.log, _, rfl, by simp only [len_app, c0, sizeLine_eq]; omega, ?_⟩⟩
      refine ⟨_, rfl, by simp only [len_app, c0, c1, sizeLine_eq]; omega, _, rfl, x, _, dx, _, _, rfl, hx, T.cl_Ratio, T.nA_Ratio_bottom, rfl, .inr ⟨b, rfl, bb.log, _, rfl, by simp only [len_app, c0, c1, sizeLine_eq]; omega, ?_⟩⟩
      unfold rtxt at k
      rw [if_neg hb] at k
      show Q (.str (((Str.empty ++ Str.ofString (toString t)) ++ Str.ofString "/") ++ Str.ofString (toString b))) H
      rw [Str.empty_append]
      exact k
def spTxt : Sp := fun vs H Q _ => ∃ p q : Int, vs = [.int p, .int q] ∧ q ≠ 0 ∧ Sz 300 p ∧ Sz 300 q ∧ ∀ t b, IsR t b p q → ∀ H', Same H H' → Q (.str (rtxt t b)) H'
theorem ok_l_text (T : Txt K mg a) : FnOk P w K mg base CX0 2 a.f_l_text a.d_l_text P_l_text spTxt := by
  refine T.F_l_text.ok sc_l_text (fun vs H Q E h => ?_) (fun cdv A outer s H vs Q E hr h => ?_)
  · obtain ⟨p, q, rfl, _⟩ := h
    rfl
  · obtain ⟨p, q, rfl, hq, sp, sq, k⟩ := h
    refine ⟨_, (Evl.pss_cut (ps_set (i := 2) sc_l_text.nd rfl (Or.inl rfl) (pe_call (ok_l_divisor T) (hr.mono (by decide)) (by rfl) T.g_l_divisor T.k_l_divisor T.b_l_divisor .nil pass0 (pa_cons (pv 0) (pa_cons (pv 1) pa_nil))))
  (Evl.pss_cut (ps_if (pt_cmpR op_lt (pv 1) pe_int (nomark _))
    (pss_one (ps_set (i := 2) sc_l_text.nd rfl (Or.inl rfl) (pe_un un_neg (pv 2))))
    pss_nil)
  (Evl.pss_cut (ps_if (pt_cmpR op_eq (pe_op op_fdivZ (pv 1) (pv 2)) pe_int (nomark _))
    (pss_one (ps_ret (pe_callTy call_str_int (by rfl) T.z_str (by decide +kernel) (pa_cons (pe_op op_fdivZ (pv 0) (pv 2)) pa_nil))))
    pss_nil)
  (pss_one (ps_ret (pe_op op_add_str (pe_op op_add_str (pe_callTy call_str_int (by rfl) T.z_str (by decide +kernel) (pa_cons (pe_op op_fdivZ (pv 0) (pv 2)) pa_nil)) pe_str) (pe_callTy call_str_int (by rfl) T.z_str (by decide +kernel) (pa_cons (pe_op op_fdivZ (pv 1) (pv 2)) pa_nil)))))))), ?_⟩
    obtain ⟨g, hg⟩ : ∃ g : Nat, g = Nat.gcd p.natAbs q.natAbs := ⟨_, rfl⟩
    have g0 : 0 < g := by rw [hg]; exact Nat.gcd_pos_of_pos_right _ (by omega)
    have hd := nrm_div (p := p) (q := q) hq hg
    obtain ⟨sh, hsh⟩ : ∃ sh : Int, sh = (if 0 < q then (g : Int) else -(g : Int)) := ⟨_, rfl⟩
    rw [← hsh] at hd
    have sh0 : sh ≠ 0 := by rw [hsh]; split <;> omega
    have shg : sh.natAbs = g := by rw [hsh]; split <;> omega
    have d1 : sh ∣ p := Int.natAbs_dvd_natAbs.mp (by rw [shg, hg]; exact Nat.gcd_dvd_left _ _)
    have d2 : sh ∣ q := Int.natAbs_dvd_natAbs.mp (by rw [shg, hg]; exact Nat.gcd_dvd_right _ _)
    have hgq : g ≤ q.natAbs := by rw [hg]; exact Nat.le_of_dvd (by omega) (Nat.gcd_dvd_right _ _)
    have cd : ∀ i, CDivZ i sh := fun i => wide_divZ (i := i) (b := 300) sh0 (Nat.lt_of_le_of_lt (by rw [shg]; exact hgq) sq) (by decide) (by decide)
    have f1 : Int.fdiv p sh = p / sh := Int.fdiv_eq_ediv_of_dvd d1
    have f2 : Int.fdiv q sh = q / sh := Int.fdiv_eq_ediv_of_dvd d2
    have bt : Bd (p / sh) := Nat.lt_of_le_of_lt (Int.natAbs_ediv_le_natAbs _ _) (Nat.lt_of_lt_of_le sp (Nat.pow_le_pow_right (by decide) (by decide)))
    have bb : Bd (q / sh) := Nat.lt_of_le_of_lt (Int.natAbs_ediv_le_natAbs _ _) (Nat.lt_of_lt_of_le sq (Nat.pow_le_pow_right (by decide) (by decide)))
    have l1 := bt.len
    have l2 := bb.len
    have c1 : (PySem.Str.ofString "/").length = 1 := by rw [PySem.ofString_length]; rfl
    refine ⟨fun σ H1 => σ = [some (.int p), some (.int q), some (.int (g : Nat))] ∧ Same H H1, ?_, ?_⟩
    · refine ⟨_, rfl, _, rfl, p, q, rfl, sp.mono (by decide), sq.mono (by decide), fun H1 e1 => ?_⟩
      rw [← hg]
      exact ⟨rfl, e1⟩
    rintro σ H1 ⟨rfl, e1⟩
    refine ⟨fun σ H2 => σ = [some (.int p), some (.int q), some (.int sh)] ∧ H2 = H1, ?_, ?_⟩
    · refine ⟨_, rfl, _, _, rfl, rfl, _, rfl, ?_⟩
      by_cases h0 : q < 0
      · rw [decide_eq_true h0]
        refine iteT ⟨_, rfl, _, rfl, ?_⟩
        rw [hsh, if_neg (by omega)]
        exact ⟨rfl, rfl⟩
      · rw [decide_eq_false h0]
        refine iteF ?_
        rw [hsh, if_pos (by omega)]
        exact ⟨rfl, rfl⟩
    rintro σ H2 ⟨rfl, rfl⟩
    have k := k _ _ hd H2 e1
    refine ⟨fun σ H3 => σ = [some (.int p), some (.int q), some (.int sh)] ∧ H3 = H2 ∧ q / sh ≠ 1, ?_, ?_⟩
    · refine ⟨_, rfl, _, rfl, _, _, rfl, rfl, cd _, rfl, _, rfl, ?_⟩
      show if decide (V.int (Int.fdiv q sh) = V.int 1) = true then _ else _
      rw [f2]
      by_cases hb : q / sh = 1
      · rw [show decide (V.int (q / sh) = V.int 1) = true by simp [hb]]
        refine iteT ⟨_, rfl, _, rfl, _, _, rfl, rfl, cd _, Int.fdiv p sh, rfl, by rw [f1]; exact bt.log, ?_⟩
        unfold rtxt at k
        rw [if_pos hb] at k
        rw [f1]
        exact k
      · rw [show decide (V.int (q / sh) = V.int 1) = false by simp [hb]]
        exact iteF ⟨rfl, rfl, hb⟩
    rintro σ H3 ⟨rfl, rfl, hb⟩
    unfold rtxt at k
    rw [if_neg hb] at k
    refine ⟨_, rfl, _, rfl, _, _, rfl, rfl, cd _, Int.fdiv p sh, rfl, by rw [f1]; exact bt.log, _, _, rfl, rfl, by rw [f1, c1, sizeLine_eq]; omega, _, rfl, _, rfl, _, _, rfl, rfl, cd _, Int.fdiv q sh, rfl, by rw [f2]; exact bb.log, _, _, rfl, rfl, by rw [f1, f2]; simp only [len_app, c1, sizeLine_eq]; omega, ?_⟩
    rw [f1, f2]
    exact k
def spBlt (C : Addr) : Sp := fun vs H Q _ => ∃ p q : Int, vs = [.int p, .int q] ∧ Sz 900 q ∧ (q ≠ 0 → spRNew C H p q Q) ∧ (q = 0 → ∀ H' r, Same H H' → H' r = some (.lst [.bl true, .bl true, .bl false]) → Q (.ref r) H')
theorem ok_l_built (T : Txt K mg a) : FnOk P w K mg base CX0 5 a.f_l_built a.d_l_built P_l_built (spBlt a.c_Ratio) := by
  refine T.F_l_built.ok sc_l_built (fun vs H Q E h => ?_) (fun cdv A outer s H vs Q E hr h => ?_)
  · obtain ⟨p, q, rfl, _⟩ := h
    rfl
  · obtain ⟨p, q, rfl, sq, k, kx⟩ := h
    refine ⟨_, (pss_one (ps_try_as (i := 2) (tb := fun W => (tRet (tMakeS a.c_Ratio (spRInitX a.c_Ratio a.c_ZeroBottom) (WE W) (tCons (tVar 0) (tCons (tVar 1) tNil)))))
    (ts := fun a0 cls d => (tRet (tLst (tCons (tCB (rIsN K cls d a0) (tCons (tVar 2) (tCons (tC (.ref a.c_TestError)) tNil))) (tCons (tCB (rIsN K cls d a0) (tCons (tVar 2) (tCons (tC (.ty "ValueError")) tNil))) (tCons (tCB (rIsN K cls d a0) (tCons (tVar 2) (tCons (tC (.ref a.c_NoPupils)) tNil))) tNil))))))
    rfl rfl sc_l_built.nd rfl rfl ⟨rfl, by decide, .inl T.g_ZeroBottom⟩ takes0
    (fun W pn xe tk _ => by exact (pss_one (ps_ret (pe_makeS T.mk_Ratio (ok_Ratio_init T) (hr.mono (by decide)) (by rfl) T.g_Ratio T.b_Ratio_init (fun σ => passAt tk σ) (pa_cons (pv 0) (pa_cons (pv 1) pa_nil))))))
    (fun a0 oe cls d pn hz hf => by exact (pss_one (ps_ret (pe_lst (pa_cons (pe_callB (call_isN hz hf) (by rfl) T.z_isinstance (by decide +kernel) (pa_cons (pv 2) (pa_cons (pe_glob (v := .ref a.c_TestError) (by rfl) T.g_TestError rfl) pa_nil))) (pa_cons (pe_callB (call_isN hz hf) (by rfl) T.z_isinstance (by decide +kernel) (pa_cons (pv 2) (pa_cons (pe_bltn (v := .ty "ValueError") (by rfl) T.z_ValueError (by decide +kernel) rfl) pa_nil))) (pa_cons (pe_callB (call_isN hz hf) (by rfl) T.z_isinstance (by decide +kernel) (pa_cons (pv 2) (pa_cons (pe_glob (v := .ref a.c_NoPupils) (by rfl) T.g_NoPupils rfl) pa_nil))) pa_nil))))))))), ?_⟩
    refine ⟨_, rfl, _, rfl, fun y dy ny nd ndy => mkRX ny nd ndy sq (fun h0 H1 e1 => ⟨true, T.te_ZeroBottom, fun _ a0 na => ?_, fun q => Bool.noConfusion q⟩) fun h0 H' t b e hy hi l1 l2 => ⟨rfl, k h0 H' y t b e hy hi l1 l2⟩⟩
    exact ⟨_, rfl, _, _, _, true, rfl, rfl, T.ek_ZeroBottom, rfl, .own _, T.kt_ZeroBottom, _, rfl, _, _, _, true, rfl, rfl, T.ek_ZeroBottom, rfl, .ty _, T.ks_ZeroBottom_ValueError, _, rfl, _, _, _, false, rfl, rfl, T.ek_ZeroBottom, rfl, .own _, T.ks_ZeroBottom_NoPupils, by show 3 ≤ sizeLine; decide, fun t nt => kx h0 _ t (e1.trans (same_upd nt)) upd_same⟩
end
end K43

namespace K43
open PySem PySem.Spec PyProof.Rows L2
section
variable {P : Program} {w : World} {K : PySem.W.Frag} {mg : Str → Option Value} {base : Heap} {a : Ad}
def sp_law (K : PySem.W.Frag) : Sp := fun vs H Q _ => ∃ (x : Addr) (ns : List Int), vs = [.ref x] ∧ ScrAt K H x (ns.map V.int) ∧ ns.length ≤ 63 ∧ ∀ H', Q (.bl true) H'
theorem nbF {c d : Bool} {A B : Prop} (h : c = d) (x : B) : if (!decide (c = d)) = true then A else B := by
  rw [decide_eq_true h]
  exact iteF x
theorem nvF {c d : V} {A B : Prop} (h : c = d) (x : B) : if (!decide (c = d)) = true then A else B := by
  rw [decide_eq_true h]
  exact iteF x
theorem dv0 {p : Int} : decide (V.int p = V.int 0) = decide (p = 0) := decide_eq_decide.mpr ⟨fun h => by cases h; rfl, fun h => by rw [h]⟩
theorem isR_nn {t b p q : Int} (h : IsR t b (-p) (-q)) : IsR t b p q := ⟨h.1, by have := h.2; rw [Int.mul_neg, Int.neg_mul] at this; omega⟩
theorem ok_law (T : Txt K mg a) : FnOk P w K mg base CX0 12 a.f_law a.d_law P_law (sp_law K) := by
  refine T.F_law.ok sc_law (fun vs H Q E h => ?_) (fun cdv A outer s H vs Q E hr h => ?_)
  · obtain ⟨x, ns, rfl, _⟩ := h
    rfl
  · obtain ⟨x, ns, rfl, hx, hl, k⟩ := h
    refine ⟨_, (Evl.pss_cut (ps_for PassesOwn.never rfl (pi_range1 (by rfl) T.z_range (pa_cons (pe_callB (call_max2 rfl) (by rfl) T.z_max (by decide +kernel) (pa_cons pe_int (pa_cons (pe_callB (call_min2 rfl) (by rfl) T.z_min (by decide +kernel) (pa_cons pe_int (pa_cons (pe_callB call_len_seq (by rfl) T.z_len (by decide +kernel) (pa_cons (pv 0) pa_nil)) pa_nil))) pa_nil))) pa_nil)) (pg_name (i := 1) sc_law.nd rfl (Or.inl rfl))
    (Evl.pss_cut (ps_set (i := 2) sc_law.nd rfl (Or.inl rfl) (pe_call (ok_l_pool T) (hr.mono (by decide)) (by rfl) T.g_l_pool T.k_l_pool T.b_l_pool .nil pass0 (pa_cons (pv 0) (pa_cons (pv 1) pa_nil))))
  (Evl.pss_cut (ps_par (i := 3) (j := 4) (by rfl) sc_law.nd rfl rfl (by decide) rfl rfl (pa_cons (pe_call (ok_l_number T) (hr.mono (by decide)) (by rfl) T.g_l_number T.k_l_number T.b_l_number .nil pass0 (pa_cons (pv 2) (pa_cons (pe_op op_pow pe_int pe_int) pa_nil))) (pa_cons (pe_call (ok_l_number T) (hr.mono (by decide)) (by rfl) T.g_l_number T.k_l_number T.b_l_number .nil pass0 (pa_cons (pv 2) (pa_cons (pe_op op_pow pe_int pe_int) pa_nil))) pa_nil)) (by rfl))
  (Evl.pss_cut (ps_set (i := 5) sc_law.nd rfl (Or.inl rfl) (pe_op op_add pe_int (pe_call (ok_l_take T) (hr.mono (by decide)) (by rfl) T.g_l_take T.k_l_take T.b_l_take .nil pass0 (pa_cons (pv 2) (pa_cons pe_int pa_nil)))))
  (Evl.pss_cut (ps_set (i := 5) sc_law.nd rfl (Or.inl rfl) (pe_op op_mulW (pv 5) (pe_op op_sub pe_int (pe_op op_mulW pe_int (pe_call (ok_l_take T) (hr.mono (by decide)) (by rfl) T.g_l_take T.k_l_take T.b_l_take .nil pass0 (pa_cons (pv 2) (pa_cons pe_int pa_nil)))))))
  (Evl.pss_cut (ps_if (pt_cmpR (op_neD hr.units) (pe_call (ok_l_built T) (hr.mono (by decide)) (by rfl) T.g_l_built T.k_l_built T.b_l_built .nil pass0 (pa_cons (pv 3) (pa_cons pe_int pa_nil))) (pe_lst (pa_cons pe_bl (pa_cons pe_bl (pa_cons pe_bl pa_nil)))) (nomark _))
    (pss_one (ps_ret pe_bl))
    pss_nil)
  (Evl.pss_cut (ps_if (PW.pt (pw_or (pt_not (pt_val (pe_call (ok_l_is_ratio T) (hr.mono (by decide)) (by rfl) T.g_l_is_ratio T.k_l_is_ratio T.b_l_is_ratio .nil pass0 (pa_cons (pe_make T.mk_Ratio (ok_Ratio_init T) (hr.mono (by decide)) (by rfl) T.g_Ratio T.bd_Ratio_init T.vd_Ratio_init passL (pa_cons (pv 3) pa_nil)) (pa_cons (pv 3) (pa_cons pe_int pa_nil)))))) (pw_or1 (pt_not (pt_val (pe_call (ok_l_is_ratio T) (hr.mono (by decide)) (by rfl) T.g_l_is_ratio T.k_l_is_ratio T.b_l_is_ratio .nil pass0 (pa_cons (pe_make T.mk_Ratio (ok_Ratio_init T) (hr.mono (by decide)) (by rfl) T.g_Ratio T.b_Ratio_init .nil passL (pa_cons (pv 4) (pa_cons pe_int pa_nil))) (pa_cons (pv 4) (pa_cons pe_int pa_nil)))))))))
    (pss_one (ps_ret pe_bl))
    pss_nil)
  (Evl.pss_cut (ps_if (PW.pt (pw_or (pt_cmpR op_notBl (pe_cmpR (cmp_ownI (ok_Ratio_eq T) (hr.mono (by decide)) T.s_Ratio_eq T.i_Ratio_eq (by rfl) T.b_Ratio_eq pass0) (pe_make T.mk_Ratio (ok_Ratio_init T) (hr.mono (by decide)) (by rfl) T.g_Ratio T.bd_Ratio_init T.vd_Ratio_init passL (pa_cons (pv 3) pa_nil)) (pv 3) (nomark _)) pe_bl (nomark _)) (pw_or1 (pt_cmpR op_notBl (pe_cmpR (cmp_ownI (ok_Ratio_eq T) (hr.mono (by decide)) T.s_Ratio_eq T.i_Ratio_eq (by rfl) T.b_Ratio_eq pass0) (pe_make T.mk_Ratio (ok_Ratio_init T) (hr.mono (by decide)) (by rfl) T.g_Ratio T.bd_Ratio_init T.vd_Ratio_init passL (pa_cons (pv 3) pa_nil)) (pe_op op_add (pv 3) (pv 5)) (nomark _)) pe_bl (nomark _)))))
    (pss_one (ps_ret pe_bl))
    pss_nil)
  (Evl.pss_cut (ps_if (PW.pt (pw_or (pt_cmpR op_notBl (pe_cmpR (cmp_eqIOwn (ok_Ratio_eq T) (hr.mono (by decide)) T.s_Ratio_eq T.i_Ratio_eq T.ni_Ratio T.b_Ratio_eq pass0) (pv 3) (pe_make T.mk_Ratio (ok_Ratio_init T) (hr.mono (by decide)) (by rfl) T.g_Ratio T.bd_Ratio_init T.vd_Ratio_init passL (pa_cons (pv 3) pa_nil)) (nomark _)) pe_bl (nomark _)) (pw_or1 (pt_cmpR op_notBl (pe_cmpR (cmp_eqIOwn (ok_Ratio_eq T) (hr.mono (by decide)) T.s_Ratio_eq T.i_Ratio_eq T.ni_Ratio T.b_Ratio_eq pass0) (pe_op op_add (pv 3) (pv 5)) (pe_make T.mk_Ratio (ok_Ratio_init T) (hr.mono (by decide)) (by rfl) T.g_Ratio T.bd_Ratio_init T.vd_Ratio_init passL (pa_cons (pv 3) pa_nil)) (nomark _)) pe_bl (nomark _)))))
    (pss_one (ps_ret pe_bl))
    pss_nil)
  (Evl.pss_cut (ps_if (pt_cmpR op_eq (pv 4) pe_int (nomark _))
    (pss_cons (ps_if (pt_cmpR (op_neD hr.units) (pe_call (ok_l_built T) (hr.mono (by decide)) (by rfl) T.g_l_built T.k_l_built T.b_l_built .nil pass0 (pa_cons (pv 3) (pa_cons (pv 4) pa_nil))) (pe_lst (pa_cons pe_bl (pa_cons pe_bl (pa_cons pe_bl pa_nil)))) (nomark _))
    (pss_one (ps_ret pe_bl))
    pss_nil)
  (pss_one ps_continue))
    pss_nil)
  (Evl.pss_cut (ps_set (i := 6) sc_law.nd rfl (Or.inl rfl) (pe_call (ok_l_built T) (hr.mono (by decide)) (by rfl) T.g_l_built T.k_l_built T.b_l_built .nil pass0 (pa_cons (pv 3) (pa_cons (pv 4) pa_nil))))
  (Evl.pss_cut (ps_if (PW.pt (pw_or (pt_not (pt_val (pe_call (ok_l_is_ratio T) (hr.mono (by decide)) (by rfl) T.g_l_is_ratio T.k_l_is_ratio T.b_l_is_ratio .nil pass0 (pa_cons (pv 6) (pa_cons (pv 3) (pa_cons (pv 4) pa_nil)))))) (pw_or1 (pt_not (pt_val (pe_call (ok_l_is_ratio T) (hr.mono (by decide)) (by rfl) T.g_l_is_ratio T.k_l_is_ratio T.b_l_is_ratio .nil pass0 (pa_cons (pe_make T.mk_Ratio (ok_Ratio_init T) (hr.mono (by decide)) (by rfl) T.g_Ratio T.b_Ratio_init .nil passL (pa_cons (pe_un un_neg (pv 3)) (pa_cons (pe_un un_neg (pv 4)) pa_nil))) (pa_cons (pv 3) (pa_cons (pv 4) pa_nil)))))))))
    (pss_one (ps_ret pe_bl))
    pss_nil)
  (Evl.pss_cut (ps_if (PW.pt (pw_and (pt_cmpR op_lt (pe_callB call_abs (by rfl) T.z_abs (by decide +kernel) (pa_cons (pv 3) pa_nil)) (pe_op op_pow pe_int pe_int) (nomark _)) (pw_and1 (pt_cmpR op_lt (pe_callB call_abs (by rfl) T.z_abs (by decide +kernel) (pa_cons (pv 4) pa_nil)) (pe_op op_pow pe_int pe_int) (nomark _)))))
    (pss_one (ps_if (pt_cmpR op_notBl (pe_cmpR (cmp_own (ok_Ratio_eq T) (hr.mono (by decide)) T.s_Ratio_eq T.i_Ratio_eq T.b_Ratio_eq pass0) (pv 6) (pe_make T.mk_Ratio (ok_Ratio_init T) (hr.mono (by decide)) (by rfl) T.g_Ratio T.b_Ratio_init .nil passL (pa_cons (pe_op op_mulW (pv 3) (pv 5)) (pa_cons (pe_op op_mulW (pv 4) (pv 5)) pa_nil))) (nomark _)) pe_bl (nomark _))
    (pss_one (ps_ret pe_bl))
    pss_nil))
    pss_nil)
  (Evl.pss_cut (ps_if (PW.pt (pw_and (pt_cmpR op_ne (pv 4) (pe_un un_neg pe_int) (nomark _)) (pw_and1 (pt_cmpR op_ne (pe_cmpR (cmp_own (ok_Ratio_eq T) (hr.mono (by decide)) T.s_Ratio_eq T.i_Ratio_eq T.b_Ratio_eq pass0) (pv 6) (pe_make T.mk_Ratio (ok_Ratio_init T) (hr.mono (by decide)) (by rfl) T.g_Ratio T.b_Ratio_init .nil passL (pa_cons (pv 3) (pa_cons (pe_op op_add (pv 4) pe_int) pa_nil))) (nomark _)) (pe_cmpR op_eq (pv 3) pe_int (nomark _)) (nomark _)))))
    (pss_one (ps_ret pe_bl))
    pss_nil)
  (Evl.pss_cut (ps_if (PW.pt (pw_or (pt_cmpR op_notBl (pe_cmpR (cmp_own (ok_Ratio_eq T) (hr.mono (by decide)) T.s_Ratio_eq T.i_Ratio_eq T.b_Ratio_eq pass0) (pv 6) (pe_make T.mk_Ratio (ok_Ratio_init T) (hr.mono (by decide)) (by rfl) T.g_Ratio T.b_Ratio_init .nil passL (pa_cons (pe_op op_add (pv 3) pe_int) (pa_cons (pv 4) pa_nil))) (nomark _)) pe_bl (nomark _)) (pw_or1 (pt_cmpR op_ne (pe_cmpR (cmp_own (ok_Ratio_eq T) (hr.mono (by decide)) T.s_Ratio_eq T.i_Ratio_eq T.b_Ratio_eq pass0) (pv 6) (pe_make T.mk_Ratio (ok_Ratio_init T) (hr.mono (by decide)) (by rfl) T.g_Ratio T.b_Ratio_init .nil passL (pa_cons (pe_un un_neg (pv 3)) (pa_cons (pv 4) pa_nil))) (nomark _)) (pe_cmpR op_eq (pv 3) pe_int (nomark _)) (nomark _)))))
    (pss_one (ps_ret pe_bl))
    pss_nil)
  (pss_one (ps_if (PW.pt (pw_or (pt_cmpR op_ne (pe_cmpR (cmp_ownI (ok_Ratio_eq T) (hr.mono (by decide)) T.s_Ratio_eq T.i_Ratio_eq (by rfl) T.b_Ratio_eq pass0) (pv 6) (pv 3) (nomark _)) (pe_cmpR op_eq (pv 3) (pe_op op_mulW (pv 3) (pv 4)) (nomark _)) (nomark _)) (pw_or (pt_cmpR op_ne (pe_callTy (call_boolOwn (ok_Ratio_bool T) (hr.mono (by decide)) T.s_Ratio_bool T.i_Ratio_bool T.b_Ratio_bool pass0) (by rfl) T.z_bool (by decide +kernel) (pa_cons (pv 6) pa_nil)) (pe_cmpR op_ne (pv 3) pe_int (nomark _)) (nomark _)) (pw_or1 (pt_cmpR op_ne (pe_callTy (call_strOwn (ok_Ratio_str T) (hr.mono (by decide)) T.s_Ratio_str T.i_Ratio_str T.b_Ratio_str pass0) (by rfl) T.z_str (by decide +kernel) (pa_cons (pv 6) pa_nil)) (pe_call (ok_l_text T) (hr.mono (by decide)) (by rfl) T.g_l_text T.k_l_text T.b_l_text .nil pass0 (pa_cons (pv 3) (pa_cons (pv 4) pa_nil))) (nomark _))))))
    (pss_one (ps_ret pe_bl))
    pss_nil)))))))))))))))))
  (pss_one (ps_ret pe_bl))), ?_⟩
    refine ⟨fun σ H1 => True, ?_, fun σ H1 _ => k _⟩
    refine ⟨_, rfl, x, _, rfl, .inl hx.seq, _, _, rfl, _, _, rfl, _, rfl, ?_, ?_, ?_⟩
    · split <;> split <;> omega
    · rw [List.length_map]; split <;> split <;> omega
    refine for_range (lo := 0) (fun i σ H1 => ∃ v1 v2 v3 v4 v5 v6, σ = [some (.ref x), v1, v2, v3, v4, v5, v6] ∧ Same H H1) ⟨_, _, _, _, _, _, rfl, Same.refl _⟩ ?_ (fun _ _ _ => trivial)
    rintro i σ H1 hi ⟨v1, v2, v3, v4, v5, v6, rfl, f1⟩
    have hi2 : i < 100 := by
      revert hi
      rw [List.length_map]
      split <;> split <;> omega
    rw [show (0 : Int) + ((i : Nat) : Int) = (i : Int) by omega]
    refine ⟨fun σ H2 => ∃ p, σ = [some (.ref x), some (.int (i : Int)), some (.ref p), v3, v4, v5, v6] ∧ Same H H2 ∧ H p = none ∧ PlAt H2 p, ?_, ?_⟩
    · exact ⟨_, rfl, _, rfl, x, ns, i, rfl, f1.seq hx.seq, hi2, fun p b m np m0 m1 => ⟨p, rfl, f1.trans (same_upd np), f1.free np, b, m, upd_same, m0, m1⟩⟩
    rintro σ H2 ⟨pl, rfl, f2, np, p2⟩
    have fr : ∀ {H3 H4 : Hp}, Same H H3 → (∀ c u, c ≠ pl → H3 c = some u → H4 c = some u) → Same H H4 := fun f g c u hc => g c u (fun z => by subst z; rw [np] at hc; cases hc) (f c u hc)
    have b39 : ∀ {r : Int}, -(10 ^ 39) ≤ r → r ≤ 10 ^ 39 → Sz 130 r := fun {r} h1 h2 => by
      have e : (10 : Int) ^ 39 = 1000000000000000000000000000000000000000 := by decide
      rw [e] at h1 h2
      unfold Sz
      omega
    refine ⟨fun σ H3 => ∃ p q : Int, σ = [some (.ref x), some (.int (i : Int)), some (.ref pl), some (.int p), some (.int q), v5, v6] ∧ Sz 130 p ∧ Sz 130 q ∧ Same H H3 ∧ PlAt H3 pl, ?_, ?_⟩
    · refine ⟨_, rfl, _, 39, rfl, rfl, ⟨by decide, by decide, by decide⟩, pl, 10 ^ 39, rfl, p2, by decide, by decide, fun H3 r f3 p3 r0 r1 => ?_⟩
      refine ⟨_, rfl, _, 39, rfl, rfl, ⟨by decide, by decide, by decide⟩, pl, 10 ^ 39, rfl, p3, by decide, by decide, fun H4 r' f4 p4 r0' r1' => ?_⟩
      exact ⟨_, _, rfl, r, r', rfl, b39 r0 r1, b39 r0' r1', fr (fr f2 f3) f4, p4⟩
    rintro σ H3 ⟨p, q, rfl, sp, sq, f3, p3⟩
    refine ⟨fun σ H4 => ∃ f : Int, σ = [some (.ref x), some (.int (i : Int)), some (.ref pl), some (.int p), some (.int q), some (.int f), v6] ∧ 0 < f ∧ f < 10 ∧ Same H H4 ∧ PlAt H4 pl, ?_, ?_⟩
    · exact ⟨_, rfl, pl, 9, rfl, p3, by decide, by decide, fun H4 r f4 p4 r0 r1 => ⟨_, _, rfl, rfl, 1 + r, rfl, by omega, by omega, fr f3 f4, p4⟩⟩
    rintro σ H4 ⟨f', rfl, f0, f9, f4, p4⟩
    refine ⟨fun σ H5 => ∃ f : Int, σ = [some (.ref x), some (.int (i : Int)), some (.ref pl), some (.int p), some (.int q), some (.int f), v6] ∧ f ≠ 0 ∧ Sz 5 f ∧ Same H H5, ?_, ?_⟩
    · refine ⟨_, rfl, _, rfl, pl, 2, rfl, p4, by decide, by decide, fun H5 r f5 p5 r0 r1 => ⟨_, _, rfl, rfl, (show Sz 3 2 by unfold Sz; decide).mulW (l := 3) (show Sz 3 r by unfold Sz; omega) (by decide), _, _, rfl, rfl, _, _, rfl, rfl, (show Sz 5 f' by unfold Sz; omega).mulW (l := 5) (show Sz 5 (1 - 2 * r) by unfold Sz; omega) (by decide), ?_⟩⟩
      rcases (show r = 0 ∨ r = 1 by omega) with rfl | rfl
      · exact ⟨f' * (1 - 2 * 0), rfl, by omega, by unfold Sz; omega, fr f4 f5⟩
      · exact ⟨f' * (1 - 2 * 1), rfl, by omega, by unfold Sz; omega, fr f4 f5⟩
    rintro σ H5 ⟨f, rfl, f0, sf, f5⟩
    -- the sizes
    have u4 : ∀ {z : Int}, Sz 130 z → Sz 400 z := fun h => h.mono (by decide)
    have one : Sz 400 1 := by unfold Sz; exact Nat.one_lt_two_pow (by decide)
    have one9 : Sz 900 1 := by unfold Sz; exact Nat.one_lt_two_pow (by decide)
    have zero9 : Sz 900 0 := by unfold Sz; exact Nat.two_pow_pos _
    have up9 : ∀ {z : Int}, Sz 130 z → Sz 900 z := fun h => h.mono (by decide)
    have n1 : ∀ {p : Int}, Nrm p 1 := fun {p} => ⟨by decide, by simp⟩
    have s1 : ∀ {z : Int}, Sz 130 z → Sz 131 (z + 1) := fun h => by
      have := h.add (j := 1) (by unfold Sz; decide)
      exact this
    have spf : Sz 131 (p + f) := sp.add (sf.mono (by decide))
    -- over 0
    refine ⟨fun σ H6 => σ = [some (.ref x), some (.int (i : Int)), some (.ref pl), some (.int p), some (.int q), some (.int f), v6] ∧ Same H H6, ?_, ?_⟩
    · refine ⟨_, rfl, p, 0, rfl, zero9, fun h => absurd rfl h, fun _ H6 r e6 hr6 => ?_⟩
      refine ⟨by show 3 ≤ sizeLine; decide, fun L nL => ?_⟩
      exact neD_bls (ns := [true, true, false]) (lst_of ((same_upd nL) _ _ hr6)) (lst_of upd_same) ⟨_, rfl, iteF ⟨rfl, (f5.trans e6).trans (same_upd nL)⟩⟩
    rintro σ H6 ⟨rfl, f6⟩
    refine ⟨fun σ H7 => σ = [some (.ref x), some (.int (i : Int)), some (.ref pl), some (.int p), some (.int q), some (.int f), v6] ∧ Same H H7, ?_, ?_⟩
    · refine ⟨_, rfl, fun y dy ny nd ndy => mkR1 (q := 1) ny nd ndy (by decide) one9 fun H7 t b e7 hy hi l1 l2 => ⟨rfl, ?_⟩⟩
      refine ⟨_, rfl, y, t, b, p, 1, rfl, hy, hi, (u4 sp).le l1, one.le l2, u4 sp, one, fun H8 e8 => ⟨_, rfl, iteF ?_⟩⟩
      refine ⟨_, rfl, fun y dy ny nd ndy => mkR1 (q := 1) ny nd ndy (by decide) one9 fun H9 t b e9 hy hi l1 l2 => ⟨rfl, ?_⟩⟩
      exact ⟨_, rfl, y, t, b, q, 1, rfl, hy, hi, (u4 sq).le l1, one.le l2, u4 sq, one, fun H10 e10 => ⟨_, rfl, iteF ⟨rfl, f6.trans ((e7.trans e8).trans (e9.trans e10))⟩⟩⟩
    rintro σ H7 ⟨rfl, f7⟩
    -- with numbers
    have eqI : ∀ {H8 : Hp} {y : Addr} {t b n : Int} {R : VK}, RatAt a.c_Ratio H8 y t b → IsR t b p 1 → Sz 131 n → (∀ H9, Same H8 H9 → R (.bl (decide (p = n))) H9) → spRCmp a.c_Ratio (fun i j => decide (i = j)) [.ref y, .int n] H8 R E0 := fun {H8 y t b n R} hy hi hn hR => by
      refine ⟨y, .int n, t, b, n, 1, rfl, hy, .inl ⟨rfl, rfl⟩, hi.1, n1, (u4 sp).le (isR_le hi (by decide)).1, one.le (isR_le hi (by decide)).2, hn.mono (by decide), one, fun H9 e9 => ?_⟩
      have := hR H9 e9
      rw [show decide (p = n) = decide (t * 1 = n * b) from decide_eq_decide.mpr (by have := isR_eq hi (isR_self (n1 (p := n))) (by decide) (by decide); rw [Int.mul_one, Int.mul_one] at this; rw [Int.mul_one]; rw [Int.mul_one] at this; exact this.symm)] at this
      exact this
    refine ⟨fun σ H8 => σ = [some (.ref x), some (.int (i : Int)), some (.ref pl), some (.int p), some (.int q), some (.int f), v6] ∧ Same H H8, ?_, ?_⟩
    · refine ⟨_, rfl, fun y dy ny nd ndy => mkR1 (q := 1) ny nd ndy (by decide) one9 fun H8 t b e8 hy hi l1 l2 => ⟨rfl, ?_⟩⟩
      obtain ⟨dy', hy'⟩ := id hy
      refine ⟨_, rfl, y, dy', _, p, rfl, rfl, hy', eqI hy hi (sp.mono (by decide)) fun H9 e9 => ⟨_, _, rfl, rfl, _, rfl, nbF (by simp) ?_⟩⟩
      refine ⟨_, rfl, fun y dy ny nd ndy => mkR1 (q := 1) ny nd ndy (by decide) one9 fun H10 t b e10 hy hi l1 l2 => ⟨rfl, ?_⟩⟩
      obtain ⟨dy', hy'⟩ := id hy
      exact ⟨_, rfl, _, rfl, _, _, rfl, rfl, y, dy', _, p + f, rfl, rfl, hy', eqI hy hi spf fun H11 e11 => ⟨_, _, rfl, rfl, _, rfl, nbF (decide_eq_false (by omega)) ⟨rfl, f7.trans ((e8.trans e9).trans (e10.trans e11))⟩⟩⟩
    rintro σ H8 ⟨rfl, f8⟩
    refine ⟨fun σ H9 => σ = [some (.ref x), some (.int (i : Int)), some (.ref pl), some (.int p), some (.int q), some (.int f), v6] ∧ Same H H9, ?_, ?_⟩
    · refine ⟨_, rfl, _, rfl, fun y dy ny nd ndy => mkR1 (q := 1) ny nd ndy (by decide) one9 fun H9 t b e9 hy hi l1 l2 => ⟨rfl, ?_⟩⟩
      obtain ⟨dy', hy'⟩ := id hy
      refine ⟨y, dy', _, p, rfl, rfl, hy', eqI hy hi (sp.mono (by decide)) fun H10 e10 => ⟨_, _, rfl, rfl, _, rfl, nbF (by simp) ?_⟩⟩
      refine ⟨_, rfl, _, rfl, _, _, rfl, rfl, _, rfl, fun y dy ny nd ndy => mkR1 (q := 1) ny nd ndy (by decide) one9 fun H11 t b e11 hy hi l1 l2 => ⟨rfl, ?_⟩⟩
      obtain ⟨dy', hy'⟩ := id hy
      exact ⟨y, dy', _, p + f, rfl, rfl, hy', eqI hy hi spf fun H12 e12 => ⟨_, _, rfl, rfl, _, rfl, nbF (decide_eq_false (by omega)) ⟨rfl, f8.trans ((e9.trans e10).trans (e11.trans e12))⟩⟩⟩
    rintro σ H9 ⟨rfl, f9⟩
    -- a bottom of 0
    refine ⟨fun σ H10 => σ = [some (.ref x), some (.int (i : Int)), some (.ref pl), some (.int p), some (.int q), some (.int f), v6] ∧ H10 = H9 ∧ q ≠ 0, ?_, ?_⟩
    · refine ⟨_, rfl, rfl, _, rfl, ?_⟩
      by_cases hq : q = 0
      · rw [show decide (V.int q = V.int 0) = true by simp [hq]]
        refine iteT ⟨_, rfl, _, rfl, p, q, rfl, up9 sq, fun h => absurd hq h, fun _ H10 r e10 hr10 => ?_⟩
        refine ⟨by show 3 ≤ sizeLine; decide, fun L nL => ?_⟩
        exact neD_bls (ns := [true, true, false]) (lst_of ((same_upd nL) _ _ hr10)) (lst_of upd_same) ⟨_, rfl, iteF ⟨_, _, _, _, _, _, rfl, (f9.trans e10).trans (same_upd nL)⟩⟩
      · rw [show decide (V.int q = V.int 0) = false by simp [hq]]
        exact iteF ⟨rfl, rfl, hq⟩
    rintro σ H10 ⟨rfl, rfl, hq⟩
    refine ⟨fun σ H11 => ∃ r t b, σ = [some (.ref x), some (.int (i : Int)), some (.ref pl), some (.int p), some (.int q), some (.int f), some (.ref r)] ∧ Same H H11 ∧ RatAt a.c_Ratio H11 r t b ∧ IsR t b p q, ?_, ?_⟩
    · exact ⟨_, rfl, _, rfl, p, q, rfl, up9 sq, fun _ H11 r t b e11 hr11 hi l1 l2 => ⟨r, t, b, rfl, f9.trans e11, hr11, hi⟩, fun h => absurd h hq⟩
    rintro σ H11 ⟨r, t, b, rfl, f11, hr11, hi⟩
    have st : Sz 130 t := sp.le (isR_le hi hq).1
    have sb : Sz 130 b := sq.le (isR_le hi hq).2
    refine ⟨fun σ H12 => σ = [some (.ref x), some (.int (i : Int)), some (.ref pl), some (.int p), some (.int q), some (.int f), some (.ref r)] ∧ Same H11 H12, ?_, ?_⟩
    · refine ⟨_, rfl, _, rfl, _, rfl, r, t, b, p, q, rfl, hr11, hi, u4 st, u4 sb, u4 sp, u4 sq, fun H12 e12 => ⟨_, rfl, iteF ?_⟩⟩
      refine ⟨_, rfl, _, rfl, _, rfl, _, rfl, fun y dy ny nd ndy => mkR1 (q := -q) ny nd ndy (by omega) (up9 sq.neg) fun H13 t' b' e13 hy hi' l1 l2 => ⟨rfl, ?_⟩⟩
      have hi2 := isR_nn hi'
      exact ⟨_, rfl, _, rfl, y, t', b', p, q, rfl, hy, hi2, (u4 sp).le (isR_le hi2 hq).1, (u4 sq).le (isR_le hi2 hq).2, u4 sp, u4 sq, fun H14 e14 => ⟨_, rfl, iteF ⟨rfl, (e12.trans e13).trans e14⟩⟩⟩
    rintro σ H12 ⟨rfl, f12⟩
    -- with another fraction
    have eqR : ∀ {H13 : Hp} {y : Addr} {t' b' p' q' : Int} {R : VK}, Same H11 H13 → RatAt a.c_Ratio H13 y t' b' → IsR t' b' p' q' → q' ≠ 0 → Sz 140 p' → Sz 140 q' → (∀ H14, Same H13 H14 → R (.bl (decide (p * q' = p' * q))) H14) → rOwn a.c_Ratio (spRCmp a.c_Ratio (fun i j => decide (i = j))) E0 (.ref r) (.ref y) H13 R := fun {H13 y t' b' p' q' R} e hy hi' hq' s3 s4 hR => by
      obtain ⟨dr, hr'⟩ := hr11.same e
      obtain ⟨dy, hy'⟩ := id hy
      refine ⟨r, y, dr, dy, _, _, rfl, rfl, hr', hy', r, .ref y, t, b, t', b', rfl, ⟨dr, hr'⟩, .inr ⟨y, rfl, hy⟩, hi.1, hi'.1, u4 st, u4 sb, (s3.le (isR_le hi' hq').1).mono (by decide), (s4.le (isR_le hi' hq').2).mono (by decide), fun H14 e14 => ?_⟩
      have := hR H14 e14
      rw [show decide (p * q' = p' * q) = decide (t * b' = t' * b) from decide_eq_decide.mpr (isR_eq hi hi' hq hq').symm] at this
      exact this
    have m0 : ∀ {z : Int}, Sz 130 z → Sz 140 z := fun h => h.mono (by decide)
    have mf : ∀ {z : Int}, Sz 130 z → Sz 140 (z * f) := fun h => (h.mul sf).mono (by decide)
    refine ⟨fun σ H13 => σ = [some (.ref x), some (.int (i : Int)), some (.ref pl), some (.int p), some (.int q), some (.int f), some (.ref r)] ∧ Same H11 H13, ?_, ?_⟩
    · refine ⟨_, rfl, _, rfl, _, 39, rfl, rfl, ⟨by decide, by decide, by decide⟩, _, _, rfl, rfl, _, rfl, ite2 (fun h => ?_) (fun h => ⟨rfl, f12⟩)⟩
      refine ⟨_, rfl, _, rfl, _, 39, rfl, rfl, ⟨by decide, by decide, by decide⟩, _, _, rfl, rfl, _, rfl, ite2 (fun h' => ?_) (fun h' => ⟨rfl, f12⟩)⟩
      refine ⟨_, rfl, _, rfl, _, rfl, _, _, rfl, rfl, sp.mulW sf (by decide), _, rfl, _, rfl, _, _, rfl, rfl, sq.mulW sf (by decide), fun y dy ny nd ndy => mkR1 ny nd ndy (Int.mul_ne_zero hq f0) ((mf sq).mono (by decide)) fun H13 t' b' e13 hy hi' l1 l2 => ⟨rfl, ?_⟩⟩
      exact eqR (f12.trans e13) hy hi' (Int.mul_ne_zero hq f0) (mf sp) (mf sq) fun H14 e14 => ⟨_, _, rfl, rfl, _, rfl, nbF (decide_eq_true (by grind)) ⟨rfl, (f12.trans e13).trans e14⟩⟩
    rintro σ H13 ⟨rfl, f13⟩
    refine ⟨fun σ H14 => σ = [some (.ref x), some (.int (i : Int)), some (.ref pl), some (.int p), some (.int q), some (.int f), some (.ref r)] ∧ Same H11 H14, ?_, ?_⟩
    · refine ⟨_, rfl, _, rfl, rfl, _, rfl, ?_⟩
      by_cases hm : q = -1
      · exact nvF (by rw [hm]) ⟨rfl, f13⟩
      · rw [show decide (V.int q = V.int (-1)) = false by simp [hm]]
        refine iteT ⟨_, rfl, _, rfl, _, rfl, _, _, rfl, rfl, fun y dy ny nd ndy => mkR1 ny nd ndy (by omega) ((s1 sq).mono (by decide)) fun H14 t' b' e14 hy hi' l1 l2 => ⟨rfl, ?_⟩⟩
        refine eqR (f13.trans e14) hy hi' (by omega) (m0 sp) ((s1 sq).mono (by decide)) fun H15 e15 => ⟨_, rfl, rfl, rfl, _, rfl, nvF ?_ ⟨rfl, (f13.trans e14).trans e15⟩⟩
        rw [dv0]
        refine congrArg V.bl (decide_eq_decide.mpr ⟨fun h => ?_, fun h => by rw [h]; simp⟩)
        rw [Int.mul_add, Int.mul_one] at h
        omega
    rintro σ H14 ⟨rfl, f14⟩
    refine ⟨fun σ H15 => σ = [some (.ref x), some (.int (i : Int)), some (.ref pl), some (.int p), some (.int q), some (.int f), some (.ref r)] ∧ Same H11 H15, ?_, ?_⟩
    · refine ⟨_, rfl, _, rfl, _, _, rfl, rfl, _, rfl, fun y dy ny nd ndy => mkR1 ny nd ndy hq (up9 sq) fun H15 t' b' e15 hy hi' l1 l2 => ⟨rfl, ?_⟩⟩
      refine eqR (f14.trans e15) hy hi' hq ((s1 sp).mono (by decide)) (m0 sq) fun H16 e16 => ⟨_, _, rfl, rfl, _, rfl, nbF (decide_eq_false (by rw [Int.add_mul, Int.one_mul]; omega)) ?_⟩
      have f16 := (f14.trans e15).trans e16
      refine ⟨_, rfl, _, rfl, _, rfl, _, rfl, fun y dy ny nd ndy => mkR1 ny nd ndy hq (up9 sq) fun H17 t' b' e17 hy hi' l1 l2 => ⟨rfl, ?_⟩⟩
      refine eqR (f16.trans e17) hy hi' hq (m0 sp.neg) (m0 sq) fun H18 e18 => ⟨_, rfl, rfl, rfl, _, rfl, nvF ?_ ⟨rfl, (f16.trans e17).trans e18⟩⟩
      rw [dv0]
      refine congrArg V.bl (decide_eq_decide.mpr ⟨fun h => ?_, fun h => by rw [h]; simp⟩)
      rw [Int.neg_mul] at h
      have : p * q = 0 := by omega
      rcases Int.mul_eq_zero.mp this with h | h
      · exact h
      · exact absurd h hq
    rintro σ H15 ⟨rfl, f15⟩
    obtain ⟨dr, hr15⟩ := hr11.same f15
    refine ⟨_, rfl, _, rfl, r, dr, _, p, rfl, rfl, hr15, r, .int p, t, b, p, 1, rfl, ⟨dr, hr15⟩, .inl ⟨rfl, rfl⟩, hi.1, n1, u4 st, u4 sb, u4 sp, one, fun H16 e16 => ?_⟩
    refine ⟨_, rfl, _, rfl, _, rfl, _, _, rfl, rfl, sp.mulW sq (by decide), rfl, rfl, _, rfl, nvF ?_ ?_⟩
    · refine congrArg V.bl (decide_eq_decide.mpr ?_)
      have := isR_eq hi (isR_self (n1 (p := p))) hq (by decide)
      rw [Int.mul_one p] at this
      exact this.trans ⟨fun h => congrArg V.int h, fun h => V.int.inj h⟩
    refine ⟨_, rfl, r, dr, _, rfl, e16 _ _ hr15, r, t, b, rfl, ⟨dr, e16 _ _ hr15⟩, _, rfl, _, rfl, rfl, rfl, _, rfl, nvF ?_ ?_⟩
    · rw [dv0, dv0]
      have e := hi.2
      refine congrArg (fun z => V.bl (!z)) (decide_eq_decide.mpr ⟨fun h => ?_, fun h => ?_⟩)
      · rw [h, Int.zero_mul] at e
        rcases Int.mul_eq_zero.mp e.symm with h | h
        · exact h
        · exact absurd h (Int.ne_of_gt hi.1.1)
      · rw [h, Int.zero_mul] at e
        rcases Int.mul_eq_zero.mp e with h | h
        · exact h
        · exact absurd h hq
    have bd : ∀ {z : Int}, Sz 130 z → Bd z := fun h => Nat.lt_of_lt_of_le h (Nat.pow_le_pow_right (by decide) (by decide))
    refine ⟨_, rfl, r, dr, _, rfl, e16 _ _ hr15, r, t, b, rfl, ⟨dr, e16 _ _ hr15⟩, bd st, bd sb, _, rfl, _, rfl, _, rfl, p, q, rfl, hq, sp.mono (by decide), sq.mono (by decide), fun t' b' hi' H17 e17 => ⟨rfl, _, rfl, nvF ?_ ?_⟩⟩
    · obtain ⟨rfl, rfl⟩ := isR_uniq hi hi' hq
      rfl
    · exact ⟨_, _, _, _, _, _, rfl, (f11.trans f15).trans (e16.trans e17)⟩
end
theorem all_mk {l : PySem.W.OpenLaw} {w : World} {K : PySem.W.Frag} {h : Heap} {mg : Str → Option Value} {fa c_TestError c_ZeroBottom c_NoPupils c_Ratio f_ZeroBottom_init f_Ratio_init f_Ratio_eq f_Ratio_bool f_Ratio_str f_l_pool f_l_take f_l_number f_l_divisor f_l_is_ratio f_l_built f_l_text f_law : Addr} (X : K.In h) (G : h.Ns mainGlobals mg) (hfa : mg "law" = some (.ref fa))
    {od_ZeroBottom_init an_ZeroBottom_init od_Ratio_init an_Ratio_init od_Ratio_eq an_Ratio_eq od_Ratio_bool an_Ratio_bool od_Ratio_str an_Ratio_str od_l_pool an_l_pool od_l_take an_l_take od_l_number an_l_number od_l_divisor an_l_divisor od_l_is_ratio an_l_is_ratio od_l_built an_l_built od_l_text an_l_text od_law an_law : Option Addr}
    {sl_ZeroBottom_init sl_Ratio_init sl_Ratio_eq sl_Ratio_bool sl_Ratio_str sl_l_pool sl_l_take sl_l_number sl_l_divisor sl_l_is_ratio sl_l_built sl_l_text sl_law : Array (Option Value)}
    {kT_Ratio_init : Addr} {ot_Ratio_init : Value} {oe_Ratio_init : Option Addr} {tk_Ratio_init : Tok} {nn_Ratio_init : Nat} {os_Ratio_init : Array (Option Value)}
    {oc_ZeroBottom_init kV_ZeroBottom_init dc_ZeroBottom_init pm_ZeroBottom_init cd_ZeroBottom_init ct_ZeroBottom_init oc_Ratio_init kV_Ratio_init dc_Ratio_init pm_Ratio_init cd_Ratio_init ct_Ratio_init oc_Ratio_eq kV_Ratio_eq dc_Ratio_eq pm_Ratio_eq cd_Ratio_eq ct_Ratio_eq oc_Ratio_bool kV_Ratio_bool dc_Ratio_bool pm_Ratio_bool cd_Ratio_bool ct_Ratio_bool oc_Ratio_str kV_Ratio_str dc_Ratio_str pm_Ratio_str cd_Ratio_str ct_Ratio_str oc_l_pool kV_l_pool dc_l_pool pm_l_pool cd_l_pool ct_l_pool oc_l_take kV_l_take dc_l_take pm_l_take cd_l_take ct_l_take oc_l_number kV_l_number dc_l_number pm_l_number cd_l_number ct_l_number oc_l_divisor kV_l_divisor dc_l_divisor pm_l_divisor cd_l_divisor ct_l_divisor oc_l_is_ratio kV_l_is_ratio dc_l_is_ratio pm_l_is_ratio cd_l_is_ratio ct_l_is_ratio oc_l_built kV_l_built dc_l_built pm_l_built cd_l_built ct_l_built oc_l_text kV_l_text dc_l_text pm_l_text cd_l_text ct_l_text oc_law kV_law dc_law pm_law cd_law ct_law : Value}
    {nm_ZeroBottom qn_ZeroBottom : Str} {ns_ZeroBottom : Addr} {bs_ZeroBottom : List Value} {sn_ZeroBottom : List Str} {sub_ZeroBottom : List Value} {ab_ZeroBottom : Bool} {col_ZeroBottom : Option Bool} {dd_ZeroBottom : Option Addr} {m0_ZeroBottom m1_ZeroBottom m2_ZeroBottom m3_ZeroBottom m5_ZeroBottom : Option Value}
    (h_g_TestError : PySem.W.nsIn K mainGlobals "TestError" = some (some (.ref c_TestError)))
    (h_g_ZeroBottom : PySem.W.nsIn K mainGlobals "ZeroBottom" = some (some (.ref c_ZeroBottom)))
    (h_g_NoPupils : PySem.W.nsIn K mainGlobals "NoPupils" = some (some (.ref c_NoPupils)))
    (h_g_Ratio : PySem.W.nsIn K mainGlobals "Ratio" = some (some (.ref c_Ratio)))
    (h_pg_Ratio : PySem.W.plainGet K c_Ratio Str.empty = true)
    (h_hd_Ratio : PySem.W.hasDictIn K c_Ratio = true)
    (h_po_Ratio : PySem.W.plainOver K c_Ratio = true)
    (h_sa_Ratio : PySem.W.findIn K (.ref c_Ratio) "__setattr__" = some (some (.builtin "object.__setattr__")))
    (h_mkk_Ratio : PySem.W.makesIn K c_Ratio = true)
    (h_kc_Ratio : PySem.W.keepIn K (.ref c_Ratio) = true)
    (h_nA_Ratio_top : PySem.W.findIn K (.ref c_Ratio) "top" = some none)
    (h_nA_Ratio_bottom : PySem.W.findIn K (.ref c_Ratio) "bottom" = some none)
    (h_ni_Ratio : PySem.W.subIn K (.ref c_Ratio) (.type "int") = some false)
    (h_kty_Ratio : PySem.W.typeIn K (.ref c_Ratio) = some (.type "type"))
    (h_kcl_Ratio : PySem.W.isClsIn K c_Ratio = true)
    (h_ic1_Ratio : PySem.W.findIn K (.ref c_Ratio) "__class__" = some (some (.builtin "object.__class__")))
    (h_ic2_Ratio : PySem.W.specialIn K (.builtin "object.__class__") "__get__" = some (some (.builtin "getset_descriptor.__get__")))
    (h_ic3_Ratio : PySem.W.takesIn K (.builtin "object.__class__") = some true)
    (h_ic4_Ratio : PySem.W.mroIn K c_Ratio (.type "object") = some true)
    (h_bga_TestError : PySem.W.specialIn K (.ref c_TestError) "__getattribute__" = some (some (.builtin "type.__getattribute__")))
    (h_ty_TestError : PySem.W.typeIn K (.ref c_TestError) = some (.type "type"))
    (h_brd_TestError : PySem.W.readsIn K c_TestError (.type "type") = true)
    (h_bfi_TestError : PySem.W.findCls K (.ref c_TestError) (.type "type") "__init__" = some (.val (.builtin "ValueError.__init__")))
    (h_xl_ZeroBottom : K.lookup c_ZeroBottom = some (excClassObj nm_ZeroBottom qn_ZeroBottom c_ZeroBottom ns_ZeroBottom bs_ZeroBottom [.ref c_TestError, .type "ValueError", .type "Exception", .type "BaseException", .type "object"] true sn_ZeroBottom sub_ZeroBottom ab_ZeroBottom col_ZeroBottom dd_ZeroBottom m0_ZeroBottom m1_ZeroBottom m2_ZeroBottom m3_ZeroBottom m5_ZeroBottom "ValueError.__new__"))
    (h_sa_ZeroBottom : PySem.W.findIn K (.ref c_ZeroBottom) "__setattr__" = some (some (.builtin "object.__setattr__")))
    (h_eb_ZeroBottom : PySem.W.subIn K (.ref c_ZeroBottom) (.type "BaseException") = some true)
    (h_ty_ZeroBottom : PySem.W.typeIn K (.ref c_ZeroBottom) = some (.type "type"))
    (h_kc_ZeroBottom : PySem.W.keepIn K (.ref c_ZeroBottom) = true)
    (h_ga_ZeroBottom : PySem.W.findIn K (.ref c_ZeroBottom) "__getattribute__" = some (some (.builtin "BaseException.__getattribute__")))
    (h_gg_ZeroBottom : PySem.W.findIn K (.ref c_ZeroBottom) "__getattr__" = some none)
    (h_hd_ZeroBottom : PySem.W.hasDictIn K c_ZeroBottom = true)
    (h_ss_ZeroBottom : PySem.W.subIn K (.ref c_ZeroBottom) (.ref c_ZeroBottom) = some true)
    (h_ic1_ZeroBottom : PySem.W.findIn K (.ref c_ZeroBottom) "__class__" = some (some (.builtin "object.__class__")))
    (h_eg2 : PySem.W.specialIn K (.builtin "object.__class__") "__get__" = some (some (.builtin "getset_descriptor.__get__")))
    (h_eg3 : PySem.W.takesIn K (.builtin "object.__class__") = some true)
    (h_ic4_ZeroBottom : PySem.W.mroIn K c_ZeroBottom (.type "object") = some true)
    (h_sb_ZeroBottom : PySem.W.subIn K (.ref c_ZeroBottom) (.ref c_TestError) = some true)
    (h_icl_TestError : PySem.W.isClsIn K c_TestError = true)
    (h_hks_ZeroBottom_ValueError : PySem.W.subIn K (.ref c_ZeroBottom) (.type "ValueError") = some true)
    (h_hks_ZeroBottom_NoPupils : PySem.W.subIn K (.ref c_ZeroBottom) (.ref c_NoPupils) = some false)
    (h_icl_NoPupils : PySem.W.isClsIn K c_NoPupils = true)
    (h_ty_NoPupils : PySem.W.typeIn K (.ref c_NoPupils) = some (.type "type"))
    (h_a_ZeroBottom_init : PySem.W.findIn K (.ref c_ZeroBottom) "__init__" = some (some (.ref f_ZeroBottom_init)))
    (h_i_ZeroBottom_init : PySem.W.isFn K (.ref f_ZeroBottom_init) = true)
    (h_l_ZeroBottom_init : K.lookup f_ZeroBottom_init = some ⟨oc_ZeroBottom_init, od_ZeroBottom_init, .func (PySem.W.fnOf "__init__" "ZeroBottom.__init__" (defArgs s_ZeroBottom_init) (defBody s_ZeroBottom_init) (defScope s_ZeroBottom_init) .none kV_ZeroBottom_init dc_ZeroBottom_init pm_ZeroBottom_init an_ZeroBottom_init cd_ZeroBottom_init ct_ZeroBottom_init), sl_ZeroBottom_init⟩)
    (h_c_ZeroBottom_init : PySem.W.codeIn K cd_ZeroBottom_init "ZeroBottom.__init__" = true)
    (h_k_ZeroBottom_init : PySem.W.keepIn K (.ref f_ZeroBottom_init) = true)
    (h_a_Ratio_init : PySem.W.findIn K (.ref c_Ratio) "__init__" = some (some (.ref f_Ratio_init)))
    (h_i_Ratio_init : PySem.W.isFn K (.ref f_Ratio_init) = true)
    (h_l_Ratio_init : K.lookup f_Ratio_init = some ⟨oc_Ratio_init, od_Ratio_init, .func (PySem.W.fnOf "__init__" "Ratio.__init__" (defArgs s_Ratio_init) (defBody s_Ratio_init) (defScope s_Ratio_init) (.ref kT_Ratio_init) kV_Ratio_init dc_Ratio_init pm_Ratio_init an_Ratio_init cd_Ratio_init ct_Ratio_init), sl_Ratio_init⟩)
    (h_c_Ratio_init : PySem.W.codeIn K cd_Ratio_init "Ratio.__init__" = true)
    (h_k_Ratio_init : PySem.W.keepIn K (.ref f_Ratio_init) = true)
    (h_kt_Ratio_init : K.lookup kT_Ratio_init = some ⟨ot_Ratio_init, oe_Ratio_init, .seq #[.int 1 tk_Ratio_init] nn_Ratio_init, os_Ratio_init⟩)
    (h_a_Ratio_eq : PySem.W.findIn K (.ref c_Ratio) "__eq__" = some (some (.ref f_Ratio_eq)))
    (h_i_Ratio_eq : PySem.W.isFn K (.ref f_Ratio_eq) = true)
    (h_l_Ratio_eq : K.lookup f_Ratio_eq = some ⟨oc_Ratio_eq, od_Ratio_eq, .func (PySem.W.fnOf "__eq__" "Ratio.__eq__" (defArgs s_Ratio_eq) (defBody s_Ratio_eq) (defScope s_Ratio_eq) .none kV_Ratio_eq dc_Ratio_eq pm_Ratio_eq an_Ratio_eq cd_Ratio_eq ct_Ratio_eq), sl_Ratio_eq⟩)
    (h_c_Ratio_eq : PySem.W.codeIn K cd_Ratio_eq "Ratio.__eq__" = true)
    (h_k_Ratio_eq : PySem.W.keepIn K (.ref f_Ratio_eq) = true)
    (h_a_Ratio_bool : PySem.W.findIn K (.ref c_Ratio) "__bool__" = some (some (.ref f_Ratio_bool)))
    (h_i_Ratio_bool : PySem.W.isFn K (.ref f_Ratio_bool) = true)
    (h_l_Ratio_bool : K.lookup f_Ratio_bool = some ⟨oc_Ratio_bool, od_Ratio_bool, .func (PySem.W.fnOf "__bool__" "Ratio.__bool__" (defArgs s_Ratio_bool) (defBody s_Ratio_bool) (defScope s_Ratio_bool) .none kV_Ratio_bool dc_Ratio_bool pm_Ratio_bool an_Ratio_bool cd_Ratio_bool ct_Ratio_bool), sl_Ratio_bool⟩)
    (h_c_Ratio_bool : PySem.W.codeIn K cd_Ratio_bool "Ratio.__bool__" = true)
    (h_k_Ratio_bool : PySem.W.keepIn K (.ref f_Ratio_bool) = true)
    (h_a_Ratio_str : PySem.W.findIn K (.ref c_Ratio) "__str__" = some (some (.ref f_Ratio_str)))
    (h_i_Ratio_str : PySem.W.isFn K (.ref f_Ratio_str) = true)
    (h_l_Ratio_str : K.lookup f_Ratio_str = some ⟨oc_Ratio_str, od_Ratio_str, .func (PySem.W.fnOf "__str__" "Ratio.__str__" (defArgs s_Ratio_str) (defBody s_Ratio_str) (defScope s_Ratio_str) .none kV_Ratio_str dc_Ratio_str pm_Ratio_str an_Ratio_str cd_Ratio_str ct_Ratio_str), sl_Ratio_str⟩)
    (h_c_Ratio_str : PySem.W.codeIn K cd_Ratio_str "Ratio.__str__" = true)
    (h_k_Ratio_str : PySem.W.keepIn K (.ref f_Ratio_str) = true)
    (h_a_l_pool : PySem.W.nsIn K mainGlobals "_law_pool" = some (some (.ref f_l_pool)))
    (h_l_l_pool : K.lookup f_l_pool = some ⟨oc_l_pool, od_l_pool, .func (PySem.W.fnOf "_law_pool" "_law_pool" (defArgs s_l_pool) (defBody s_l_pool) (defScope s_l_pool) .none kV_l_pool dc_l_pool pm_l_pool an_l_pool cd_l_pool ct_l_pool), sl_l_pool⟩)
    (h_c_l_pool : PySem.W.codeIn K cd_l_pool "_law_pool" = true)
    (h_k_l_pool : PySem.W.keepIn K (.ref f_l_pool) = true)
    (h_a_l_take : PySem.W.nsIn K mainGlobals "_law_take" = some (some (.ref f_l_take)))
    (h_l_l_take : K.lookup f_l_take = some ⟨oc_l_take, od_l_take, .func (PySem.W.fnOf "_law_take" "_law_take" (defArgs s_l_take) (defBody s_l_take) (defScope s_l_take) .none kV_l_take dc_l_take pm_l_take an_l_take cd_l_take ct_l_take), sl_l_take⟩)
    (h_c_l_take : PySem.W.codeIn K cd_l_take "_law_take" = true)
    (h_k_l_take : PySem.W.keepIn K (.ref f_l_take) = true)
    (h_a_l_number : PySem.W.nsIn K mainGlobals "_law_number" = some (some (.ref f_l_number)))
    (h_l_l_number : K.lookup f_l_number = some ⟨oc_l_number, od_l_number, .func (PySem.W.fnOf "_law_number" "_law_number" (defArgs s_l_number) (defBody s_l_number) (defScope s_l_number) .none kV_l_number dc_l_number pm_l_number an_l_number cd_l_number ct_l_number), sl_l_number⟩)
    (h_c_l_number : PySem.W.codeIn K cd_l_number "_law_number" = true)
    (h_k_l_number : PySem.W.keepIn K (.ref f_l_number) = true)
    (h_a_l_divisor : PySem.W.nsIn K mainGlobals "_law_divisor" = some (some (.ref f_l_divisor)))
    (h_l_l_divisor : K.lookup f_l_divisor = some ⟨oc_l_divisor, od_l_divisor, .func (PySem.W.fnOf "_law_divisor" "_law_divisor" (defArgs s_l_divisor) (defBody s_l_divisor) (defScope s_l_divisor) .none kV_l_divisor dc_l_divisor pm_l_divisor an_l_divisor cd_l_divisor ct_l_divisor), sl_l_divisor⟩)
    (h_c_l_divisor : PySem.W.codeIn K cd_l_divisor "_law_divisor" = true)
    (h_k_l_divisor : PySem.W.keepIn K (.ref f_l_divisor) = true)
    (h_a_l_is_ratio : PySem.W.nsIn K mainGlobals "_law_is_ratio" = some (some (.ref f_l_is_ratio)))
    (h_l_l_is_ratio : K.lookup f_l_is_ratio = some ⟨oc_l_is_ratio, od_l_is_ratio, .func (PySem.W.fnOf "_law_is_ratio" "_law_is_ratio" (defArgs s_l_is_ratio) (defBody s_l_is_ratio) (defScope s_l_is_ratio) .none kV_l_is_ratio dc_l_is_ratio pm_l_is_ratio an_l_is_ratio cd_l_is_ratio ct_l_is_ratio), sl_l_is_ratio⟩)
    (h_c_l_is_ratio : PySem.W.codeIn K cd_l_is_ratio "_law_is_ratio" = true)
    (h_k_l_is_ratio : PySem.W.keepIn K (.ref f_l_is_ratio) = true)
    (h_a_l_built : PySem.W.nsIn K mainGlobals "_law_built" = some (some (.ref f_l_built)))
    (h_l_l_built : K.lookup f_l_built = some ⟨oc_l_built, od_l_built, .func (PySem.W.fnOf "_law_built" "_law_built" (defArgs s_l_built) (defBody s_l_built) (defScope s_l_built) .none kV_l_built dc_l_built pm_l_built an_l_built cd_l_built ct_l_built), sl_l_built⟩)
    (h_c_l_built : PySem.W.codeIn K cd_l_built "_law_built" = true)
    (h_k_l_built : PySem.W.keepIn K (.ref f_l_built) = true)
    (h_a_l_text : PySem.W.nsIn K mainGlobals "_law_text" = some (some (.ref f_l_text)))
    (h_l_l_text : K.lookup f_l_text = some ⟨oc_l_text, od_l_text, .func (PySem.W.fnOf "_law_text" "_law_text" (defArgs s_l_text) (defBody s_l_text) (defScope s_l_text) .none kV_l_text dc_l_text pm_l_text an_l_text cd_l_text ct_l_text), sl_l_text⟩)
    (h_c_l_text : PySem.W.codeIn K cd_l_text "_law_text" = true)
    (h_k_l_text : PySem.W.keepIn K (.ref f_l_text) = true)
    (h_a_law : PySem.W.nsIn K mainGlobals "law" = some (some (.ref f_law)))
    (h_l_law : K.lookup f_law = some ⟨oc_law, od_law, .func (PySem.W.fnOf "law" "law" (defArgs s_law) (defBody s_law) (defScope s_law) .none kV_law dc_law pm_law an_law cd_law ct_law), sl_law⟩)
    (h_c_law : PySem.W.codeIn K cd_law "law" = true)
    (h_k_law : PySem.W.keepIn K (.ref f_law) = true)
    (h_ti_ZeroBottom : PySem.W.typeIn K (.ref f_ZeroBottom_init) = some (.type "function"))
    (h_gg_gcd : PySem.W.nsIn K mainGlobals "gcd" = some (some (.builtin "math.gcd")))
    (h_z_ValueError : PySem.W.nsIn K mainGlobals "ValueError" = some none)
    (h_z_abs : PySem.W.nsIn K mainGlobals "abs" = some none)
    (h_z_bool : PySem.W.nsIn K mainGlobals "bool" = some none)
    (h_z_int : PySem.W.nsIn K mainGlobals "int" = some none)
    (h_z_isinstance : PySem.W.nsIn K mainGlobals "isinstance" = some none)
    (h_z_len : PySem.W.nsIn K mainGlobals "len" = some none)
    (h_z_max : PySem.W.nsIn K mainGlobals "max" = some none)
    (h_z_min : PySem.W.nsIn K mainGlobals "min" = some none)
    (h_z_range : PySem.W.nsIn K mainGlobals "range" = some none)
    (h_z_str : PySem.W.nsIn K mainGlobals "str" = some none) :
    ∃ fd : FuncData, (∀ (s : Shared) (v : Value), BindsTo s fd ⟨[v], []⟩ [("_law_script", v)]) ∧ ∀ base : Heap, K.In base → base.Ns mainGlobals mg → FnOk l.prog w K mg base CX0 12 fa fd ["_law_script"] (sp_law K) := by
  have e := hfa.symm.trans (PySem.W.mg_of X G h_a_law)
  cases e
  have FD_Ratio_init : FunD K "__init__" "Ratio.__init__" (defArgs s_Ratio_init) (defBody s_Ratio_init) (defScope s_Ratio_init) [V.int 1] [] f_Ratio_init (PySem.W.fnOf "__init__" "Ratio.__init__" (defArgs s_Ratio_init) (defBody s_Ratio_init) (defScope s_Ratio_init) (.ref kT_Ratio_init) kV_Ratio_init dc_Ratio_init pm_Ratio_init an_Ratio_init cd_Ratio_init ct_Ratio_init) :=
    ⟨⟨_, _, _, _, _, _, _, _, _, _, rfl, h_l_Ratio_init, h_c_Ratio_init, .inr ⟨by simp, _, _, [.int 1 tk_Ratio_init], _, rfl, h_kt_Ratio_init, rfl, .cons ⟨_, rfl⟩ .nil⟩, .inl rfl⟩, h_k_Ratio_init⟩
  have KD_Ratio_init : ∃ ds, Vals [V.int 1] ds ∧ L2.Binds K _ P_Ratio_init ds := FD_Ratio_init.binds1 2 0 (by simp) rfl fun T kV doc pm an cdv ct us its hu hi => match us, hu, its, hi with | [_, _], _, [_], _ => ⟨_, rfl, rfl⟩
  have KA_Ratio_init : L2.Binds K _ P_Ratio_init [] := (fun ⟨ds, r, h⟩ => by cases r; exact h) (FD_Ratio_init.binds1 (ps := P_Ratio_init) 3 1 (by simp) rfl fun T kV doc pm an cdv ct us its hu hi => match us, hu, its, hi with | [_, _, _], _, [_], _ => ⟨_, rfl, rfl⟩)
  have T : Txt K mg (Ad.mk c_TestError c_ZeroBottom c_NoPupils c_Ratio f_ZeroBottom_init (PySem.W.fnOf "__init__" "ZeroBottom.__init__" (defArgs s_ZeroBottom_init) (defBody s_ZeroBottom_init) (defScope s_ZeroBottom_init) .none kV_ZeroBottom_init dc_ZeroBottom_init pm_ZeroBottom_init an_ZeroBottom_init cd_ZeroBottom_init ct_ZeroBottom_init) f_Ratio_init (PySem.W.fnOf "__init__" "Ratio.__init__" (defArgs s_Ratio_init) (defBody s_Ratio_init) (defScope s_Ratio_init) (.ref kT_Ratio_init) kV_Ratio_init dc_Ratio_init pm_Ratio_init an_Ratio_init cd_Ratio_init ct_Ratio_init) f_Ratio_eq (PySem.W.fnOf "__eq__" "Ratio.__eq__" (defArgs s_Ratio_eq) (defBody s_Ratio_eq) (defScope s_Ratio_eq) .none kV_Ratio_eq dc_Ratio_eq pm_Ratio_eq an_Ratio_eq cd_Ratio_eq ct_Ratio_eq) f_Ratio_bool (PySem.W.fnOf "__bool__" "Ratio.__bool__" (defArgs s_Ratio_bool) (defBody s_Ratio_bool) (defScope s_Ratio_bool) .none kV_Ratio_bool dc_Ratio_bool pm_Ratio_bool an_Ratio_bool cd_Ratio_bool ct_Ratio_bool) f_Ratio_str (PySem.W.fnOf "__str__" "Ratio.__str__" (defArgs s_Ratio_str) (defBody s_Ratio_str) (defScope s_Ratio_str) .none kV_Ratio_str dc_Ratio_str pm_Ratio_str an_Ratio_str cd_Ratio_str ct_Ratio_str) f_l_pool (PySem.W.fnOf "_law_pool" "_law_pool" (defArgs s_l_pool) (defBody s_l_pool) (defScope s_l_pool) .none kV_l_pool dc_l_pool pm_l_pool an_l_pool cd_l_pool ct_l_pool) f_l_take (PySem.W.fnOf "_law_take" "_law_take" (defArgs s_l_take) (defBody s_l_take) (defScope s_l_take) .none kV_l_take dc_l_take pm_l_take an_l_take cd_l_take ct_l_take) f_l_number (PySem.W.fnOf "_law_number" "_law_number" (defArgs s_l_number) (defBody s_l_number) (defScope s_l_number) .none kV_l_number dc_l_number pm_l_number an_l_number cd_l_number ct_l_number) f_l_divisor (PySem.W.fnOf "_law_divisor" "_law_divisor" (defArgs s_l_divisor) (defBody s_l_divisor) (defScope s_l_divisor) .none kV_l_divisor dc_l_divisor pm_l_divisor an_l_divisor cd_l_divisor ct_l_divisor) f_l_is_ratio (PySem.W.fnOf "_law_is_ratio" "_law_is_ratio" (defArgs s_l_is_ratio) (defBody s_l_is_ratio) (defScope s_l_is_ratio) .none kV_l_is_ratio dc_l_is_ratio pm_l_is_ratio an_l_is_ratio cd_l_is_ratio ct_l_is_ratio) f_l_built (PySem.W.fnOf "_law_built" "_law_built" (defArgs s_l_built) (defBody s_l_built) (defScope s_l_built) .none kV_l_built dc_l_built pm_l_built an_l_built cd_l_built ct_l_built) f_l_text (PySem.W.fnOf "_law_text" "_law_text" (defArgs s_l_text) (defBody s_l_text) (defScope s_l_text) .none kV_l_text dc_l_text pm_l_text an_l_text cd_l_text ct_l_text) fa (PySem.W.fnOf "law" "law" (defArgs s_law) (defBody s_law) (defScope s_law) .none kV_law dc_law pm_law an_law cd_law ct_law) KD_Ratio_init.choose) :=
    Txt.mk (PySem.W.mg_of X G h_g_TestError) (PySem.W.mg_of X G h_g_ZeroBottom) (PySem.W.mg_of X G h_g_NoPupils) (PySem.W.mg_of X G h_g_Ratio) (⟨h_pg_Ratio, h_hd_Ratio, h_po_Ratio, h_sa_Ratio⟩) (⟨h_mkk_Ratio, h_a_Ratio_init, h_i_Ratio_init, h_kc_Ratio⟩) (h_nA_Ratio_top) (h_nA_Ratio_bottom) (h_ni_Ratio) (kit_int h_kcl_Ratio h_kty_Ratio) (⟨h_ic1_Ratio, h_ic2_Ratio, h_ic3_Ratio, h_ic4_Ratio⟩) (if_pos (beq_self_eq_true _)) (⟨h_bga_TestError, h_ty_TestError, h_brd_TestError, h_bfi_TestError⟩) (⟨⟨_, _, _, _, _, _, _, _, _, _, _, _, _, _, _, h_xl_ZeroBottom, by rfl⟩, h_sa_ZeroBottom, h_eb_ZeroBottom, h_ty_ZeroBottom, h_kc_ZeroBottom⟩) (⟨h_ga_ZeroBottom, h_gg_ZeroBottom, h_eb_ZeroBottom, h_hd_ZeroBottom⟩) (PySem.W.exm_ref h_eb_ZeroBottom h_hd_ZeroBottom h_ty_ZeroBottom h_ss_ZeroBottom) (⟨h_ga_ZeroBottom, h_gg_ZeroBottom, h_eb_ZeroBottom, h_hd_ZeroBottom, h_ic1_ZeroBottom, h_eg2, h_eg3, h_ic4_ZeroBottom⟩) (h_a_ZeroBottom_init) (h_ti_ZeroBottom) (kit_sub h_sb_ZeroBottom h_icl_TestError h_ty_TestError) (kit_tyR h_hks_ZeroBottom_ValueError (by decide +kernel)) (kit_refF h_ss_ZeroBottom h_hks_ZeroBottom_NoPupils h_icl_NoPupils h_ty_NoPupils) (fun_mk h_l_ZeroBottom_init h_c_ZeroBottom_init h_k_ZeroBottom_init) ((fun_mk (st := s_ZeroBottom_init) h_l_ZeroBottom_init h_c_ZeroBottom_init h_k_ZeroBottom_init).binds (ps := P_ZeroBottom_init) fun _ _ _ _ _ _ us hl => match us, hl with | [_], _ => rfl) (h_k_ZeroBottom_init) (h_i_ZeroBottom_init) (FD_Ratio_init) (h_k_Ratio_init) (h_i_Ratio_init) (KD_Ratio_init.choose_spec.1) (KD_Ratio_init.choose_spec.2) (KA_Ratio_init) (fun_mk h_l_Ratio_eq h_c_Ratio_eq h_k_Ratio_eq) ((fun_mk (st := s_Ratio_eq) h_l_Ratio_eq h_c_Ratio_eq h_k_Ratio_eq).binds (ps := P_Ratio_eq) fun _ _ _ _ _ _ us hl => match us, hl with | [_, _], _ => rfl) (h_k_Ratio_eq) (h_i_Ratio_eq) (h_a_Ratio_eq) (fun_mk h_l_Ratio_bool h_c_Ratio_bool h_k_Ratio_bool) ((fun_mk (st := s_Ratio_bool) h_l_Ratio_bool h_c_Ratio_bool h_k_Ratio_bool).binds (ps := P_Ratio_bool) fun _ _ _ _ _ _ us hl => match us, hl with | [_], _ => rfl) (h_k_Ratio_bool) (h_i_Ratio_bool) (h_a_Ratio_bool) (fun_mk h_l_Ratio_str h_c_Ratio_str h_k_Ratio_str) ((fun_mk (st := s_Ratio_str) h_l_Ratio_str h_c_Ratio_str h_k_Ratio_str).binds (ps := P_Ratio_str) fun _ _ _ _ _ _ us hl => match us, hl with | [_], _ => rfl) (h_k_Ratio_str) (h_i_Ratio_str) (h_a_Ratio_str) (fun_mk h_l_l_pool h_c_l_pool h_k_l_pool) ((fun_mk (st := s_l_pool) h_l_l_pool h_c_l_pool h_k_l_pool).binds (ps := P_l_pool) fun _ _ _ _ _ _ us hl => match us, hl with | [_, _], _ => rfl) (h_k_l_pool) (PySem.W.mg_of X G h_a_l_pool) (fun_mk h_l_l_take h_c_l_take h_k_l_take) ((fun_mk (st := s_l_take) h_l_l_take h_c_l_take h_k_l_take).binds (ps := P_l_take) fun _ _ _ _ _ _ us hl => match us, hl with | [_, _], _ => rfl) (h_k_l_take) (PySem.W.mg_of X G h_a_l_take) (fun_mk h_l_l_number h_c_l_number h_k_l_number) ((fun_mk (st := s_l_number) h_l_l_number h_c_l_number h_k_l_number).binds (ps := P_l_number) fun _ _ _ _ _ _ us hl => match us, hl with | [_, _], _ => rfl) (h_k_l_number) (PySem.W.mg_of X G h_a_l_number) (fun_mk h_l_l_divisor h_c_l_divisor h_k_l_divisor) ((fun_mk (st := s_l_divisor) h_l_l_divisor h_c_l_divisor h_k_l_divisor).binds (ps := P_l_divisor) fun _ _ _ _ _ _ us hl => match us, hl with | [_, _], _ => rfl) (h_k_l_divisor) (PySem.W.mg_of X G h_a_l_divisor) (fun_mk h_l_l_is_ratio h_c_l_is_ratio h_k_l_is_ratio) ((fun_mk (st := s_l_is_ratio) h_l_l_is_ratio h_c_l_is_ratio h_k_l_is_ratio).binds (ps := P_l_is_ratio) fun _ _ _ _ _ _ us hl => match us, hl with | [_, _, _], _ => rfl) (h_k_l_is_ratio) (PySem.W.mg_of X G h_a_l_is_ratio) (fun_mk h_l_l_built h_c_l_built h_k_l_built) ((fun_mk (st := s_l_built) h_l_l_built h_c_l_built h_k_l_built).binds (ps := P_l_built) fun _ _ _ _ _ _ us hl => match us, hl with | [_, _], _ => rfl) (h_k_l_built) (PySem.W.mg_of X G h_a_l_built) (fun_mk h_l_l_text h_c_l_text h_k_l_text) ((fun_mk (st := s_l_text) h_l_l_text h_c_l_text h_k_l_text).binds (ps := P_l_text) fun _ _ _ _ _ _ us hl => match us, hl with | [_, _], _ => rfl) (h_k_l_text) (PySem.W.mg_of X G h_a_l_text) (fun_mk h_l_law h_c_law h_k_law) ((fun_mk (st := s_law) h_l_law h_c_law h_k_law).binds (ps := P_law) fun _ _ _ _ _ _ us hl => match us, hl with | [_], _ => rfl) (h_k_law) (PySem.W.mg_of X G h_a_law) (PySem.W.mg_of X G h_gg_gcd) (PySem.W.mg_none_of X G h_z_ValueError) (PySem.W.mg_none_of X G h_z_abs) (PySem.W.mg_none_of X G h_z_bool) (PySem.W.mg_none_of X G h_z_int) (PySem.W.mg_none_of X G h_z_isinstance) (PySem.W.mg_none_of X G h_z_len) (PySem.W.mg_none_of X G h_z_max) (PySem.W.mg_none_of X G h_z_min) (PySem.W.mg_none_of X G h_z_range) (PySem.W.mg_none_of X G h_z_str)
  exact ⟨_, fun s v => .of_eq rfl, fun base _ _ => ok_law T⟩
theorem walk {l : PySem.W.OpenLaw} {q : Program} {loose : List Str} {XP : (Str → Option Value) → Heap → Prop} {YP : World → Heap → Prop} {d : DefRec} {K : Params → PySem.W.Frag} (hn : l.most = some 63) (hdf : d.params.defaults = [])
    (hY : ∀ (w : World) (h : Heap), YP w h → (K w.params).In h)
    (F : ∀ (w : World) (mg : Str → Option Value) (fa : Addr) (h : Heap), (K w.params).In h → h.Ns mainGlobals mg → mg d.name = some (.ref fa) →
      ∃ fd : FuncData, (∀ (s : Shared) (u : Value), BindsTo s fd ⟨[u], []⟩ [("_law_script", u)]) ∧ ∀ base : Heap, (K w.params).In base → base.Ns mainGlobals mg → FnOk l.prog w (K w.params) mg base CX0 12 fa fd ["_law_script"] (sp_law (K w.params))) :
    PySem.W.WalkO q loose XP YP l.row.toRowW d [] (fun f vs => PySem.call f vs) :=
  L2.walk_of (n := 63) (k := 12) (x := "_law_script") (CX := fun _ => CX0) (sp := fun w => sp_law (K w.params)) hn (by decide) hdf ⟨rfl, by decide, by decide⟩ hY F (fun _ _ a ns hl hO hS => ⟨a, ns, rfl, scr_of hO hS, hl, fun _ => rfl⟩) fun _ _ _ _ _ z => z
end K43

open PySem PySem.W PyProof.Rows in
set_option maxRecDepth 100000 in
set_option maxHeartbeats 0 in
theorem PySem.Challenge.cw_steppedtests_k43_ratios_built_holds : PySem.Challenge.rw_steppedtests_k43_ratios_built.Holds := by
  w_on; o_law; k_head; (case hw => w_witness2)
  k_fill
  refine K43.walk (l := PySem.Challenge.rw_steppedtests_k43_ratios_built) rfl rfl (fun w h Y => PySem.W.kIn_of Y) ?F
  case F =>
    intro w mg fa h KX G hmg
    refine' K43.all_mk KX G hmg ?h_g_TestError ?h_g_ZeroBottom ?h_g_NoPupils ?h_g_Ratio ?h_pg_Ratio ?h_hd_Ratio ?h_po_Ratio ?h_sa_Ratio ?h_mkk_Ratio ?h_kc_Ratio ?h_nA_Ratio_top ?h_nA_Ratio_bottom ?h_ni_Ratio ?h_kty_Ratio ?h_kcl_Ratio ?h_ic1_Ratio ?h_ic2_Ratio ?h_ic3_Ratio ?h_ic4_Ratio ?h_bga_TestError ?h_ty_TestError ?h_brd_TestError ?h_bfi_TestError ?h_xl_ZeroBottom ?h_sa_ZeroBottom ?h_eb_ZeroBottom ?h_ty_ZeroBottom ?h_kc_ZeroBottom ?h_ga_ZeroBottom ?h_gg_ZeroBottom ?h_hd_ZeroBottom ?h_ss_ZeroBottom ?h_ic1_ZeroBottom ?h_eg2 ?h_eg3 ?h_ic4_ZeroBottom ?h_sb_ZeroBottom ?h_icl_TestError ?h_hks_ZeroBottom_ValueError ?h_hks_ZeroBottom_NoPupils ?h_icl_NoPupils ?h_ty_NoPupils ?h_a_ZeroBottom_init ?h_i_ZeroBottom_init ?h_l_ZeroBottom_init ?h_c_ZeroBottom_init ?h_k_ZeroBottom_init ?h_a_Ratio_init ?h_i_Ratio_init ?h_l_Ratio_init ?h_c_Ratio_init ?h_k_Ratio_init ?h_kt_Ratio_init ?h_a_Ratio_eq ?h_i_Ratio_eq ?h_l_Ratio_eq ?h_c_Ratio_eq ?h_k_Ratio_eq ?h_a_Ratio_bool ?h_i_Ratio_bool ?h_l_Ratio_bool ?h_c_Ratio_bool ?h_k_Ratio_bool ?h_a_Ratio_str ?h_i_Ratio_str ?h_l_Ratio_str ?h_c_Ratio_str ?h_k_Ratio_str ?h_a_l_pool ?h_l_l_pool ?h_c_l_pool ?h_k_l_pool ?h_a_l_take ?h_l_l_take ?h_c_l_take ?h_k_l_take ?h_a_l_number ?h_l_l_number ?h_c_l_number ?h_k_l_number ?h_a_l_divisor ?h_l_l_divisor ?h_c_l_divisor ?h_k_l_divisor ?h_a_l_is_ratio ?h_l_l_is_ratio ?h_c_l_is_ratio ?h_k_l_is_ratio ?h_a_l_built ?h_l_l_built ?h_c_l_built ?h_k_l_built ?h_a_l_text ?h_l_l_text ?h_c_l_text ?h_k_l_text ?h_a_law ?h_l_law ?h_c_law ?h_k_law ?h_ti_ZeroBottom ?h_gg_gcd ?h_z_ValueError ?h_z_abs ?h_z_bool ?h_z_int ?h_z_isinstance ?h_z_len ?h_z_max ?h_z_min ?h_z_range ?h_z_str
    (case h_g_TestError => k_is)
    (case h_g_ZeroBottom => k_is)
    (case h_g_NoPupils => k_is)
    (case h_g_Ratio => k_is)
    (case h_pg_Ratio => k_is)
    (case h_hd_Ratio => k_is)
    (case h_po_Ratio => k_is)
    (case h_sa_Ratio => k_is)
    (case h_mkk_Ratio => k_is)
    (case h_kc_Ratio => k_is)
    (case h_nA_Ratio_top => k_is)
    (case h_nA_Ratio_bottom => k_is)
    (case h_ni_Ratio => k_is)
    (case h_kty_Ratio => k_is)
    (case h_kcl_Ratio => k_is)
    (case h_ic1_Ratio => k_is)
    (case h_ic2_Ratio => k_is)
    (case h_ic3_Ratio => k_is)
    (case h_ic4_Ratio => k_is)
    (case h_bga_TestError => k_is)
    (case h_ty_TestError => k_is)
    (case h_brd_TestError => k_is)
    (case h_bfi_TestError => k_is)
    (case h_xl_ZeroBottom => k_is)
    (case h_sa_ZeroBottom => k_is)
    (case h_eb_ZeroBottom => k_is)
    (case h_ty_ZeroBottom => k_is)
    (case h_kc_ZeroBottom => k_is)
    (case h_ga_ZeroBottom => k_is)
    (case h_gg_ZeroBottom => k_is)
    (case h_hd_ZeroBottom => k_is)
    (case h_ss_ZeroBottom => first | rfl | k_is)
    (case h_ic1_ZeroBottom => k_is)
    (case h_eg2 => k_is)
    (case h_eg3 => k_is)
    (case h_ic4_ZeroBottom => k_is)
    (case h_sb_ZeroBottom => k_is)
    (case h_icl_TestError => k_is)
    (case h_hks_ZeroBottom_ValueError => k_is)
    (case h_hks_ZeroBottom_NoPupils => k_is)
    (case h_icl_NoPupils => k_is)
    (case h_ty_NoPupils => k_is)
    (case h_a_ZeroBottom_init => k_is)
    (case h_i_ZeroBottom_init => k_is)
    (case h_l_ZeroBottom_init => k_is)
    (case h_c_ZeroBottom_init => k_is)
    (case h_k_ZeroBottom_init => k_is)
    (case h_a_Ratio_init => k_is)
    (case h_i_Ratio_init => k_is)
    (case h_l_Ratio_init => k_is)
    (case h_c_Ratio_init => k_is)
    (case h_k_Ratio_init => k_is)
    (case h_kt_Ratio_init => k_is)
    (case h_a_Ratio_eq => k_is)
    (case h_i_Ratio_eq => k_is)
    (case h_l_Ratio_eq => k_is)
    (case h_c_Ratio_eq => k_is)
    (case h_k_Ratio_eq => k_is)
    (case h_a_Ratio_bool => k_is)
    (case h_i_Ratio_bool => k_is)
    (case h_l_Ratio_bool => k_is)
    (case h_c_Ratio_bool => k_is)
    (case h_k_Ratio_bool => k_is)
    (case h_a_Ratio_str => k_is)
    (case h_i_Ratio_str => k_is)
    (case h_l_Ratio_str => k_is)
    (case h_c_Ratio_str => k_is)
    (case h_k_Ratio_str => k_is)
    (case h_a_l_pool => k_is)
    (case h_l_l_pool => k_is)
    (case h_c_l_pool => k_is)
    (case h_k_l_pool => k_is)
    (case h_a_l_take => k_is)
    (case h_l_l_take => k_is)
    (case h_c_l_take => k_is)
    (case h_k_l_take => k_is)
    (case h_a_l_number => k_is)
    (case h_l_l_number => k_is)
    (case h_c_l_number => k_is)
    (case h_k_l_number => k_is)
    (case h_a_l_divisor => k_is)
    (case h_l_l_divisor => k_is)
    (case h_c_l_divisor => k_is)
    (case h_k_l_divisor => k_is)
    (case h_a_l_is_ratio => k_is)
    (case h_l_l_is_ratio => k_is)
    (case h_c_l_is_ratio => k_is)
    (case h_k_l_is_ratio => k_is)
    (case h_a_l_built => k_is)
    (case h_l_l_built => k_is)
    (case h_c_l_built => k_is)
    (case h_k_l_built => k_is)
    (case h_a_l_text => k_is)
    (case h_l_l_text => k_is)
    (case h_c_l_text => k_is)
    (case h_k_l_text => k_is)
    (case h_a_law => k_is)
    (case h_l_law => k_is)
    (case h_c_law => k_is)
    (case h_k_law => k_is)
    (case h_ti_ZeroBottom => k_is)
    (case h_gg_gcd => k_is)
    (case h_z_ValueError => k_is)
    (case h_z_abs => k_is)
    (case h_z_bool => k_is)
    (case h_z_int => k_is)
    (case h_z_isinstance => k_is)
    (case h_z_len => k_is)
    (case h_z_max => k_is)
    (case h_z_min => k_is)
    (case h_z_range => k_is)
    (case h_z_str => k_is)
