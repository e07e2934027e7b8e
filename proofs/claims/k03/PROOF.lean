import PyProof.Rows.All
import Wide.All
import OpenK.AllK
import Wide.FinOn
import HandS.ForMost
import HandS.ForExc
import HandS.OwnEq
import HandS.Wide
import HandS.SetFor
import HandS.Strs
import HandS.IsInst
import HandS.TupAny
import HandS.Style
import HandS.Codes
import HandS.Flow
import HandS.Evl
import HandS.Conv
import KE.KEqDeep
import HandS.ExcInit
import HandS.ExcField
import HandS.ExcIs
import HandS.FStr
import HandS.TryMany
import HandS.Defaults
import HandS.Iter
import HandS.Zip
import HandS.Text
import HandS.RevRange
import HandS.Dict
import HandS.WordsDict
import PySem.Challenge.RW_steppedtests_k03_asked_reach_reached
set_option Elab.async false
set_option linter.all false
set_option maxRecDepth 100000
set_option exponentiation.threshold 500
set_option maxHeartbeats 4000000
namespace L2
open PySem PySem.Spec PyProof.Rows
/-! ## own special methods of a class: | & - by __or__ .., <= == by __le__ .., in by __contains__, len by __len__ -/
section
variable {X : Cx} {n : Nat} {CX : CXT} {C f : Addr} {fd : FuncData} {ps : List Str} {sp : Sp} {E : XK} {pins : List (Addr × Obj)} {σ : St} {H : Hp} {s : Shared}
theorem run_own {A : Around} {vs : List V} {us : List Value} {Q : VK} (F : FnOk X.prog X.w X.K X.mg X.base CX n f fd ps sp) (sb : Sub X n A) (hb : Binds X.K fd ps []) (hx : Passes CX X E)
    (I : Inv X pins σ H s) (r : Vals vs us) (h : sp vs H Q E) : wpAny (model X.prog X.w) A (call (.ref f) us) (EP X pins σ Q) X.xe s := by
  have e0 : Env0 X.prog X.w X.K X.mg X.base A X.stack s H := by
    have e := I.env0
    exact ⟨by rw [sb.fr]; exact e.frames, e.mod, e.bs, e.bsz, e.funs, e.frf, e.hok, e.bare⟩
  have hl := F.len _ _ _ _ h
  have hl2 : us.length = ps.length := by rw [← hl, r.length]
  refine wpAny_call (codeAny_mono (F.run A X.stack s H ⟨us, []⟩ us vs Q E sb.room e0 (by
    have := hb s us I.kIn (by simpa using hl2)
    simpa using this) r h) fun r' s' hq => ?_)
  cases r' with
  | error e => exact hx pins σ H s e s' I hq
  | ok fl =>
    cases fl with
    | ret w => exact I.after hq
    | next => exact False.elim hq
    | brk => exact False.elim hq
    | cont => exact False.elim hq
/-- a value of the layer is never NotImplemented -/
theorem back_ep {u : Value} {s' : Shared} {Q : VK} (h : EP X pins σ Q u s') : PySem.W.CmpBack (EP X pins σ Q) u s' := by
  obtain ⟨v, H', I', r, q⟩ := id h
  cases v with
  | non => cases r; exact h
  | bl b => cases r; exact h
  | int i => obtain ⟨t, rfl⟩ := r; exact h
  | str x => obtain ⟨t, rfl⟩ := r; exact h
  | byt x => obtain ⟨t, rfl⟩ := r; exact h
  | flt x => obtain ⟨t, rfl⟩ := r; exact h
  | ref a => cases r; exact h
  | ty m => cases r; exact h
def rOwn (C : Addr) (sp : Sp) (E : XK) : R2 := fun x y H Q => ∃ a b dx dy fs gs, x = .ref a ∧ y = .ref b ∧ H a = some (.ins C dx fs) ∧ H b = some (.ins C dy gs) ∧ sp [.ref a, .ref b] H Q E
theorem op_own {op : Operator} (F : FnOk X.prog X.w X.K X.mg X.base CX n f fd ps sp) (hr : Room n X.A) (hs : PySem.W.findIn X.K (.ref C) (PySem.dunder op.info.2) = some (some (.ref f))) (hf : PySem.W.isFn X.K (.ref f) = true)
    (hc : PySem.W.selfFirst X.K C = true) (hb : Binds X.K fd ps []) (hx : Passes CX X E) : OpR X (binaryOp op) (rOwn C sp E) := by
  intro pins s σ H x y v u Q I rx ry h
  obtain ⟨a, b, dx, dy, fs, gs, rfl, rfl, ha, hb', h⟩ := h
  cases rx
  cases ry
  obtain ⟨mA, J, _⟩ := ins_get I.hok ha
  obtain ⟨mB, J', _⟩ := ins_get I.hok hb'
  obtain ⟨od, J, _⟩ := J.look
  obtain ⟨od', J', _⟩ := J'.look
  obtain ⟨m, hF⟩ := I.fr
  refine PySem.W.binop_K hF I.ok.mod.kin J J'.type hc hs hf ?_
  exact thn (run_own (vs := [.ref a, .ref b]) F ⟨hr, rfl⟩ hb hx I (.cons rfl (.cons rfl .nil)) h) fun u s' q => back_ep q
theorem cmp_own {op : CmpOp} (F : FnOk X.prog X.w X.K X.mg X.base CX n f fd ps sp) (hr : Room n X.A) (hs : PySem.W.findIn X.K (.ref C) (PySem.cmpInfo op).2.1 = some (some (.ref f))) (hf : PySem.W.isFn X.K (.ref f) = true)
    (hb : Binds X.K fd ps []) (hx : Passes CX X E) : OpR X (richCompare op) (rOwn C sp E) := by
  intro pins s σ H x y v u Q I rx ry h
  obtain ⟨a, b, dx, dy, fs, gs, rfl, rfl, ha, hb', h⟩ := h
  cases rx
  cases ry
  obtain ⟨mA, J, _⟩ := ins_get I.hok ha
  obtain ⟨mB, J', _⟩ := ins_get I.hok hb'
  obtain ⟨od, J, _⟩ := J.look
  obtain ⟨od', J', _⟩ := J'.look
  obtain ⟨m, hF⟩ := I.fr
  refine PySem.W.cmp_K hr.units0 hF I.ok.mod.kin J J'.type (by simp [PySem.W.notFirst]) hs hf ?_
  exact thn (run_own (vs := [.ref a, .ref b]) F ⟨hr, rfl⟩ hb hx I (.cons rfl (.cons rfl .nil)) h) fun u s' q => back_ep q
def rOwnIn (C : Addr) (sp : Sp) (E : XK) (neg : Bool) : R2 := fun x y H Q => ∃ b dy gs, y = .ref b ∧ H b = some (.ins C dy gs) ∧ sp [.ref b, x] H (fun v H' => ∃ k, v = .bl k ∧ Q (.bl (if neg then !k else k)) H') E
theorem in_own (F : FnOk X.prog X.w X.K X.mg X.base CX n f fd ps sp) (hr : Room n X.A) (hs : PySem.W.findIn X.K (.ref C) "__contains__" = some (some (.ref f))) (hf : PySem.W.isFn X.K (.ref f) = true)
    (hb : Binds X.K fd ps []) (hx : Passes CX X E) : OpR X (compareOp .In) (rOwnIn C sp E false) := by
  intro pins s σ H x y v u Q I rx ry h
  obtain ⟨b, dy, gs, rfl, hb', h⟩ := h
  cases ry
  obtain ⟨mB, J', _⟩ := ins_get I.hok hb'
  obtain ⟨od', J', _⟩ := J'.look
  obtain ⟨m, hF⟩ := I.fr
  refine PySem.W.in_K hF I.ok.mod.kin J' hs hf ?_
  refine thn (run_own (vs := [.ref b, x]) F ⟨hr, rfl⟩ hb hx I (.cons rfl (.cons rx .nil)) h) fun u s' q => ?_
  obtain ⟨z, H', I', rz, k, rfl, q⟩ := q
  cases rz
  exact wpAny_truthy_bool ⟨.bl k, H', I', rfl, q⟩
theorem notIn_own (F : FnOk X.prog X.w X.K X.mg X.base CX n f fd ps sp) (hr : Room n X.A) (hs : PySem.W.findIn X.K (.ref C) "__contains__" = some (some (.ref f))) (hf : PySem.W.isFn X.K (.ref f) = true)
    (hb : Binds X.K fd ps []) (hx : Passes CX X E) : OpR X (compareOp .NotIn) (rOwnIn C sp E true) := by
  intro pins s σ H x y v u Q I rx ry h
  obtain ⟨b, dy, gs, rfl, hb', h⟩ := h
  cases ry
  obtain ⟨mB, J', _⟩ := ins_get I.hok hb'
  obtain ⟨od', J', _⟩ := J'.look
  obtain ⟨m, hF⟩ := I.fr
  refine PySem.W.notIn_K hF I.ok.mod.kin J' hs hf ?_
  refine thn (run_own (vs := [.ref b, x]) F ⟨hr, rfl⟩ hb hx I (.cons rfl (.cons rx .nil)) h) fun u s' q => ?_
  obtain ⟨z, H', I', rz, k, rfl, q⟩ := q
  cases rz
  exact wpAny_truthy_bool ⟨.bl (!k), H', I', rfl, q⟩
def rOwnLen (C : Addr) (sp : Sp) (E : XK) : List V → Hp → VK → Prop := fun xs H Q => ∃ b dy gs, xs = [.ref b] ∧ H b = some (.ins C dy gs) ∧ sp [.ref b] H (fun v H' => ∃ k : Int, v = .int k ∧ 0 ≤ k ∧ k < 2 ^ 63 ∧ Q (.int k) H') E
theorem len_own (F : FnOk X.prog X.w X.K X.mg X.base CX n f fd ps sp) (hr : Room (n + 1) X.A) (hs : PySem.W.findIn X.K (.ref C) "__len__" = some (some (.ref f))) (hf : PySem.W.isFn X.K (.ref f) = true)
    (hb : Binds X.K fd ps []) (hx : Passes CX X E) : CallR X (.builtin "len") (rOwnLen C sp E) := by
  intro pins s σ H xs us Q I r h
  obtain ⟨b, dy, gs, rfl, hb', h⟩ := h
  rw [Vals.ref1 r]
  obtain ⟨mB, J', _⟩ := ins_get I.hok hb'
  obtain ⟨od', J', _⟩ := J'.look
  obtain ⟨m, hF⟩ := I.fr
  refine PySem.W.len_K hF I.ok.mod.kin J' hs hf ?_
  have sb : Sub X (n + 1) X.A := ⟨hr, rfl⟩
  refine thn (run_own (vs := [.ref b]) F sb.in1 hb hx I (.cons rfl .nil) h) fun u s' q => ?_
  obtain ⟨z, H', I', rz, k, rfl, h0, h1, q⟩ := q
  obtain ⟨t, rfl⟩ := rz
  exact ⟨⟨h0, h1⟩, .int k, H', I'.tok _, ⟨_, rfl⟩, q⟩
/-- web[i] by an own __getitem__ -/
def rOwnIx (C : Addr) (sp : Sp) (E : XK) : R2 := fun x y H Q => ∃ a dx fs, x = .ref a ∧ H a = some (.ins C dx fs) ∧ sp [.ref a, y] H Q E
theorem pe_ownIx {a b : Expr} {ta tb : TE} {pos : Pos} (F : FnOk X.prog X.w X.K X.mg X.base CX n f fd ps sp) (hr : Room (n + 1) X.A) (hs : PySem.W.findIn X.K (.ref C) "__getitem__" = some (some (.ref f))) (hfn : PySem.W.fnIn X.K f = true) (hf : PySem.W.isFn X.K (.ref f) = true)
    (hb : Binds X.K fd ps []) (hx : Passes CX X E) (ha : PE X a ta) (hb' : PE X b tb)
    (hsl : ∀ x i, subscripted b true (.ref x) i = runValue (.builtin "lifetime.subscript" ⟨[.ref x, i], []⟩) := by intro _ _; with_unfolding_all rfl) : PE X (.Subscript a b pos) (tOp (rOwnIx C sp E) ta tb) := by
  refine ⟨fun pins s σ H Q I h => ?_⟩
  refine Subscript_ (binT ha hb' I h fun v u s2 x y H2 I2 rx ry q => ?_)
  obtain ⟨c, dx, fs, rfl, hc, q⟩ := q
  cases rx
  obtain ⟨mB, J', _⟩ := ins_get I2.hok hc
  obtain ⟨od', J', _⟩ := J'.look
  obtain ⟨m, hF⟩ := I2.fr
  have sb : Sub X (n + 1) X.A := ⟨hr, rfl⟩
  exact PySem.W.sub_K hF I2.ok.mod.kin J' hs hfn hf (run_own (vs := [.ref c, y]) F sb.in1 hb hx I2 (.cons rfl (.cons ry .nil)) q) (hsl _ _)
/-- set(t), t a tuple of ints -/
def rSetOf (K : PySem.W.Frag) (w : World) : List V → Hp → VK → Prop := fun xs H Q => ∃ (l : Addr) (ns : List Int), xs = [V.ref l] ∧ SqT K H l (ns.map V.int) ∧ ns.length ≤ 1000 ∧
  ∀ p c, H p = none → c ≤ ns.length → (∀ L : List Int, (∀ k ∈ ns, k ∈ L) → c ≤ L.length) → Q (.ref p) (upd H p (SetO w p (fun j => decide (j ∈ ns)) c))
theorem nodup_le : ∀ (l D : List Int), l.Nodup → (∀ x ∈ l, x ∈ D) → l.length ≤ D.length
  | [], _, _, _ => Nat.zero_le _
  | x :: r, D, hn, h => by
    have hx : x ∈ D := h x List.mem_cons_self
    obtain ⟨h1, h2⟩ := List.nodup_cons.mp hn
    have ih := nodup_le r (D.erase x) h2 fun y hy => by
      have hne : y ≠ x := fun e => h1 (e ▸ hy)
      exact (List.mem_erase_of_ne hne).mpr (h y (List.mem_cons_of_mem _ hy))
    rw [List.length_erase_of_mem hx] at ih
    have : 0 < D.length := List.length_pos_of_mem hx
    rw [List.length_cons]
    omega
theorem cr_setOf (hc : X.calm = true) : CallR X (.type "set") (rSetOf X.K X.w) := by
  intro pins s σ H xs us Q I r h
  obtain ⟨l, ns, rfl, hq, hl, q⟩ := h
  rw [Vals.ref1 r]
  obtain ⟨its, rv, pt, hz⟩ := I.tuple hq
  have hi : IntsAre its.toArray.toList ns := by simpa using ints_of_vals rv
  refine call_set_tupI ns (I.ok.hd hc) (show s.heap.IsTuple l its.toArray from pt) hi (by unfold scanBound; omega) fun h' tk c R hcn k => ?_
  have hn : H s.heap.objs.size = none := I.hok.fresh (Nat.le_refl _)
  refine ⟨.ref s.heap.objs.size, upd H s.heap.objs.size (SetO X.w s.heap.objs.size (fun j => decide (j ∈ ns)) c), I.laid (t' := tk) k (Nat.le_refl _) (setO_new R), rfl, q _ c hn hcn fun L hL => ?_⟩
  obtain ⟨o, es, ep, t, ho, hex, hdt, g, nd, hm2, hb, hf, hn2, hr, hl2⟩ := R
  have z := nodup_le _ L nd fun x hx => hL x (of_decide_eq_true ((hm2 x).mpr hx))
  rw [List.length_map, Array.length_toList, hn2] at z
  exact z
end
end L2

namespace L2
open PySem PySem.Spec PyProof.Rows
/-! ## heaps that keep all but the pool -/
def isPool (o : HO) : Prop := ∃ (a : Addr) (c i b s : Int), o = .lst [.ref a, .int c, .int i, .int b, .int s]
def Gd (H H' : Hp) : Prop := (∀ b o, ¬ isPool o → H b = some o → H' b = some o) ∧ ∀ b o, isPool o → H b = some o → ∃ o', isPool o' ∧ H' b = some o'
theorem Gd.refl (H : Hp) : Gd H H := ⟨fun _ _ _ h => h, fun _ o n h => ⟨o, n, h⟩⟩
theorem Gd.trans {H H1 H2 : Hp} (a : Gd H H1) (b : Gd H1 H2) : Gd H H2 := ⟨fun x o n h => b.1 x o n (a.1 x o n h), fun x o n h => let ⟨o', n', h'⟩ := a.2 x o n h; b.2 x o' n' h'⟩
theorem Same.gd {H H' : Hp} (h : Same H H') : Gd H H' := ⟨fun b o _ e => h b o e, fun b o n e => ⟨o, n, h b o e⟩⟩
theorem fresh_gd {H H' : Hp} {p : Addr} (e : Gd H H') (h : H' p = none) : H p = none := by
  cases q : H p with
  | none => rfl
  | some o =>
    exfalso
    by_cases n : isPool o
    · obtain ⟨o', _, h'⟩ := e.2 p o n q
      rw [h] at h'
      cases h'
    · have := e.1 p o n q
      rw [h] at this
      cases this
theorem np_ints (ns : List Int) : ¬ isPool (.lst (ns.map V.int)) := by
  rintro ⟨a, c, i, b, s, h⟩
  cases ns with
  | nil => cases h
  | cons x r => injection h with h; injection h with h _; cases h
theorem np_frz (o : Obj) (u : HO) : ¬ isPool (.frz o u) := by rintro ⟨a, c, i, b, s, h⟩; cases h
theorem np_tup (xs : List V) : ¬ isPool (.tup xs) := by rintro ⟨a, c, i, b, s, h⟩; cases h
theorem np_ins (C dx : Addr) (fs : List (Str × V)) : ¬ isPool (.ins C dx fs) := by rintro ⟨a, c, i, b, s, h⟩; cases h
theorem Gd.seq {K : PySem.W.Frag} {H H' : Hp} {a : Addr} {ns : List Int} (e : Gd H H') (h : SqL K H a (ns.map V.int)) : SqL K H' a (ns.map V.int) := by
  rcases h with (h | ⟨o, h⟩) | h
  · exact .inl (.inl (e.1 _ _ (np_ints ns) h))
  · exact .inl (.inr ⟨o, e.1 _ _ (np_frz _ _) h⟩)
  · exact .inr h
theorem Same.seqT {K : PySem.W.Frag} {H H' : Hp} {a : Addr} {xs : List V} (e : Same H H') (h : SqT K H a xs) : SqT K H' a xs := by
  rcases h with (h | ⟨o, h⟩) | h
  · exact .inl (.inl (e _ _ h))
  · exact .inl (.inr ⟨o, e _ _ h⟩)
  · exact .inr h
theorem same_upd {H : Hp} {p : Addr} {o : HO} (h : H p = none) : Same H (upd H p o) := fun b x e => by
  rw [upd_ne (ne_of_none e h)]
  exact e
/-- a heap made from H' by changing p, which H did not know -/
theorem Same.mut {H H' : Hp} {p : Addr} {o : HO} (e : Same H H') (h : H p = none) : Same H (upd H' p o) := fun a u ha => by
  rw [upd_ne (ne_of_none ha h)]
  exact e a u ha
theorem Gd.mut {H H' : Hp} {p : Addr} {o : HO} (e : Gd H H') (h : H p = none) : Gd H (upd H' p o) := ⟨fun a u n ha => by
  rw [upd_ne (ne_of_none ha h)]
  exact e.1 a u n ha, fun a u n ha => by
  rw [upd_ne (ne_of_none ha h)]
  exact e.2 a u n ha⟩
theorem Gd.upd {H H' : Hp} {p : Addr} {o : HO} (e : Gd H H') (h : H' p = none) : Gd H (upd H' p o) := e.mut (fresh_gd e h)
/-- the script: known to the object, or of the written part -/
def ScrAt (K : PySem.W.Frag) (H : Hp) (a : Addr) (xs : List V) : Prop :=
  (∃ o, H a = some (.frz o (.lst xs))) ∨ ∃ (o : Obj) (its : Array Value) (n : Nat), K.lookup a = some o ∧ o.cls = .type "list" ∧ o.dict = none ∧ o.data = .seq its n ∧ its.size ≤ sizeLine ∧ Vals xs its.toList
theorem ScrAt.seq {K : PySem.W.Frag} {H : Hp} {a : Addr} {xs : List V} (h : ScrAt K H a xs) : SqL K H a xs := h.elim (fun ⟨o, h⟩ => .inl (.inr ⟨o, h⟩)) fun h => .inr h
theorem ScrAt.gd {K : PySem.W.Frag} {H H' : Hp} {a : Addr} {xs : List V} (e : Gd H H') (h : ScrAt K H a xs) : ScrAt K H' a xs := h.elim (fun ⟨o, h⟩ => .inl ⟨o, e.1 _ _ (np_frz _ _) h⟩) fun h => .inr h
theorem ScrAt.mut {K : PySem.W.Frag} {H : Hp} {a D : Addr} {xs ys : List V} {o : HO} (hD : H D = some (.lst ys)) (h : ScrAt K H a xs) : ScrAt K (upd H D o) a xs :=
  h.elim (fun ⟨u, h⟩ => .inl ⟨u, by rw [upd_ne (ne_of h hD (by intro z; cases z))]; exact h⟩) fun h => .inr h
theorem scr_of {K : PySem.W.Frag} {H : Hp} {a : Addr} {xs : List V} (hO : Only H) (h : SqL K H a xs) : ScrAt K H a xs := by
  rcases h with (h | ⟨o, h⟩) | h
  · rcases hO a with z | ⟨o, ys, z⟩
    · rw [h] at z; cases z
    · rw [h] at z; cases z
  · exact .inl ⟨o, h⟩
  · exact .inr h
/-- the pool at p has drawn at most c times -/
def PoolOk (K : PySem.W.Frag) (p : Addr) (c : Nat) (H : Hp) : Prop := ∃ (sa : Addr) (ns : List Int) (c' i b s : Int), ScrAt K H sa (ns.map V.int) ∧ H p = some (.lst [.ref sa, .int c', .int i, .int b, .int s]) ∧ 0 ≤ c' ∧ c' ≤ (c : Int) ∧ 0 ≤ i ∧ i ≤ (ns.length : Int) ∧ 0 ≤ b ∧ 0 ≤ s ∧ s < 2147483629
theorem PoolOk.same {K : PySem.W.Frag} {p : Addr} {c : Nat} {H H' : Hp} (h : PoolOk K p c H) (e : Same H H') : PoolOk K p c H' := by
  obtain ⟨sa, ns, c', i, b, s, h1, h2, h3⟩ := h
  exact ⟨sa, ns, c', i, b, s, h1.gd e.gd, e _ _ h2, h3⟩
theorem PoolOk.mono {K : PySem.W.Frag} {p : Addr} {c d : Nat} {H : Hp} (h : PoolOk K p c H) (e : c ≤ d) : PoolOk K p d H := by
  obtain ⟨sa, ns, c', i, b, s, h1, h2, h3, h4, h5⟩ := h
  exact ⟨sa, ns, c', i, b, s, h1, h2, h3, by omega, h5⟩
/-- the pool is known, so a new address is another one -/
theorem PoolOk.ne {K : PySem.W.Frag} {p q : Addr} {c : Nat} {H : Hp} (h : PoolOk K p c H) (e : H q = none) : p ≠ q := by
  obtain ⟨sa, ns, c', i, b, s, h1, h2, h3⟩ := h
  exact ne_of_none h2 e
theorem PoolOk.upd {K : PySem.W.Frag} {p q : Addr} {c : Nat} {H : Hp} {o : HO} (h : PoolOk K p c H) (e : H q = none) : PoolOk K p c (upd H q o) := h.same (same_upd e)
/-- a list that stands (not the pool's) is changed: the pool stays -/
theorem PoolOk.mut {K : PySem.W.Frag} {p D : Addr} {c : Nat} {H : Hp} {ys : List V} {o : HO} (h : PoolOk K p c H) (hD : H D = some (.lst ys)) (n : ¬ isPool (.lst ys)) : PoolOk K p c (L2.upd H D o) := by
  obtain ⟨sa, ns, c', i, b, s, h1, h2, h3⟩ := h
  refine ⟨sa, ns, c', i, b, s, h1.mut hD, ?_, h3⟩
  rw [upd_ne (fun e => by
    subst e
    rw [h2] at hD
    injection hD with hD
    exact n ⟨sa, c', i, b, s, hD.symm⟩)]
  exact h2
theorem tyes {σ : St} {H : Hp} {A B : Hp → Prop} (h : A H) : tYes σ H fun b H3 => if b = true then A H3 else B H3 := by
  unfold tYes
  dsimp only
  rw [if_pos rfl]
  exact h
def pl (sa : Addr) (c i b s : Int) : HO := .lst [.ref sa, .int c, .int i, .int b, .int s]
theorem pl_pool (sa : Addr) (c i b s : Int) : isPool (pl sa c i b s) := ⟨sa, c, i, b, s, rfl⟩
theorem gd_pool {H : Hp} {p sa sa' : Addr} {c i b s c' i' b' s' : Int} (h : H p = some (pl sa c i b s)) : Gd H (upd H p (pl sa' c' i' b' s')) := ⟨fun x u n e => by
  have hx : x ≠ p := fun z => by
    subst z
    rw [h] at e
    injection e with e
    exact n ⟨sa, c, i, b, s, e.symm⟩
  rw [upd_ne hx]
  exact e, fun x u n e => by
  by_cases hx : x = p
  · subst hx
    exact ⟨_, pl_pool _ _ _ _ _, upd_same⟩
  · exact ⟨u, n, by rw [upd_ne hx]; exact e⟩⟩
def LIM : Nat := 1099511627776
def spDraw (K : PySem.W.Frag) : Sp := fun vs H Q _ => ∃ (p : Addr) (c : Nat) (lim : Int), vs = [.ref p, .int lim] ∧ PoolOk K p c H ∧ c < LIM ∧ 0 < lim ∧ lim < 2 ^ 200 ∧
  ∀ H' r, Gd H H' → PoolOk K p (c + 1) H' → 0 ≤ r → r < lim → Q (.int r) H'
def spPool (K : PySem.W.Frag) : Sp := fun vs H Q _ => ∃ (x : Addr) (ns : List Int), vs = [.ref x] ∧ ScrAt K H x (ns.map V.int) ∧ ∀ p H', H p = none → Same H H' → PoolOk K p 0 H' → Q (.ref p) H'
theorem atI0 {α : Type} {x : α} {r : List α} : atI (x :: r) 0 = some x := atI_nat (j := 0) rfl
theorem atI1 {α : Type} {x y : α} {r : List α} : atI (x :: y :: r) 1 = some y := atI_nat (j := 1) rfl
theorem atI2 {α : Type} {x y z : α} {r : List α} : atI (x :: y :: z :: r) 2 = some z := atI_nat (j := 2) rfl
theorem atI3 {α : Type} {x y z u : α} {r : List α} : atI (x :: y :: z :: u :: r) 3 = some u := atI_nat (j := 3) rfl
theorem atI4 {α : Type} {x y z u v : α} {r : List α} : atI (x :: y :: z :: u :: v :: r) 4 = some v := atI_nat (j := 4) rfl
/-! ## sets of questions by their ascending lists -/
def ask48 : List Int := (List.range 48).map fun i => ((i : Nat) : Int)
def norm (l : List Int) : List Int := ask48.filter fun x => decide (x ∈ l)
theorem mem_ask {x : Int} : x ∈ ask48 ↔ 0 ≤ x ∧ x < 48 := by
  unfold ask48
  rw [List.mem_map]
  constructor
  · rintro ⟨i, h, rfl⟩
    have := List.mem_range.mp h
    omega
  · rintro ⟨h0, h1⟩
    exact ⟨x.toNat, List.mem_range.mpr (by omega), by omega⟩
theorem mem_norm {l : List Int} {x : Int} : x ∈ norm l ↔ (0 ≤ x ∧ x < 48) ∧ x ∈ l := by
  unfold norm
  rw [List.mem_filter, mem_ask, decide_eq_true_eq]
theorem ask_sorted : ask48.Pairwise (· < ·) := by
  unfold ask48
  rw [List.pairwise_map]
  exact List.Pairwise.imp (fun h => by omega) List.pairwise_lt_range
theorem norm_sorted (l : List Int) : (norm l).Pairwise (· < ·) := ask_sorted.sublist List.filter_sublist
theorem norm_len (l : List Int) : (norm l).length ≤ 48 := by
  refine Nat.le_trans (List.length_filter_le _ _) ?_
  unfold ask48
  rw [List.length_map, List.length_range]
  exact Nat.le_refl _
theorem sorted_ext : ∀ {l l' : List Int}, l.Pairwise (· < ·) → l'.Pairwise (· < ·) → (∀ x, x ∈ l ↔ x ∈ l') → l = l'
  | [], [], _, _, _ => rfl
  | [], b :: r, _, _, h => absurd ((h b).mpr List.mem_cons_self) (by simp)
  | a :: r, [], _, _, h => absurd ((h a).mp List.mem_cons_self) (by simp)
  | a :: r, b :: s, h1, h2, h => by
    obtain ⟨ha, hr⟩ := List.pairwise_cons.mp h1
    obtain ⟨hb, hs⟩ := List.pairwise_cons.mp h2
    have e : a = b := by
      rcases List.mem_cons.mp ((h a).mp List.mem_cons_self) with e | e
      · exact e
      · rcases List.mem_cons.mp ((h b).mpr List.mem_cons_self) with e2 | e2
        · exact e2.symm
        · have := hb a e
          have := ha b e2
          omega
    subst e
    have : r = s := sorted_ext hr hs fun x => by
      constructor
      · intro hx
        rcases List.mem_cons.mp ((h x).mp (List.mem_cons_of_mem _ hx)) with e | e
        · have := ha x hx
          omega
        · exact e
      · intro hx
        rcases List.mem_cons.mp ((h x).mpr (List.mem_cons_of_mem _ hx)) with e | e
        · have := hb x hx
          omega
        · exact e
    rw [this]
theorem norm_ext {l l' : List Int} (h : ∀ x, 0 ≤ x → x < 48 → (x ∈ l ↔ x ∈ l')) : norm l = norm l' :=
  sorted_ext (norm_sorted l) (norm_sorted l') fun x => by
    rw [mem_norm, mem_norm]
    constructor
    · rintro ⟨a, b⟩; exact ⟨a, (h x a.1 a.2).mp b⟩
    · rintro ⟨a, b⟩; exact ⟨a, (h x a.1 a.2).mpr b⟩
theorem norm_of_sorted {l l' : List Int} (h : l.Pairwise (· < ·)) (hm : ∀ x, x ∈ l ↔ x ∈ l') (hr : ∀ x ∈ l', 0 ≤ x ∧ x < 48) : l = norm l' :=
  sorted_ext h (norm_sorted l') fun x => by
    rw [hm, mem_norm]
    exact ⟨fun a => ⟨hr x a, a⟩, fun a => a.2⟩
theorem norm_eq_iff {l l' : List Int} : norm l = norm l' ↔ ∀ x, 0 ≤ x → x < 48 → (x ∈ l ↔ x ∈ l') := by
  constructor
  · intro e x h0 h1
    have : x ∈ norm l ↔ x ∈ norm l' := by rw [e]
    rw [mem_norm, mem_norm] at this
    exact ⟨fun a => (this.mp ⟨⟨h0, h1⟩, a⟩).2, fun a => (this.mpr ⟨⟨h0, h1⟩, a⟩).2⟩
  · exact norm_ext
theorem norm_filter (l : List Int) (p : Int → Bool) : (norm l).filter p = norm (l.filter p) := by
  refine sorted_ext ((norm_sorted l).sublist List.filter_sublist) (norm_sorted _) fun x => ?_
  rw [List.mem_filter, mem_norm, mem_norm, List.mem_filter]
  constructor
  · rintro ⟨⟨a, b⟩, c⟩; exact ⟨a, b, c⟩
  · rintro ⟨a, b, c⟩; exact ⟨⟨a, b⟩, c⟩
theorem norm_norm (l : List Int) : norm (norm l) = norm l := norm_ext fun x h0 h1 => by
  rw [mem_norm]
  exact ⟨fun a => a.2, fun a => ⟨⟨h0, h1⟩, a⟩⟩
/-! ## values -/
theorem flat_ints (ns : List Int) : (ns.map V.int).all flatV = true := by
  rw [List.all_eq_true]
  intro x hx
  obtain ⟨i, _, rfl⟩ := List.mem_map.mp hx
  rfl
theorem eqV_int (i j : Int) : eqV (.int i) (.int j) = decide (i = j) := by
  show (i == j) = _
  rw [Bool.eq_iff_iff]
  simp
theorem in_ints (x : Int) (ns : List Int) : inV (.int x) (ns.map V.int) = decide (x ∈ ns) := by
  unfold inV
  rw [Bool.eq_iff_iff, List.any_eq_true, decide_eq_true_eq]
  constructor
  · rintro ⟨y, hy, e⟩
    obtain ⟨i, hi, rfl⟩ := List.mem_map.mp hy
    rw [eqV_int, decide_eq_true_eq] at e
    exact e ▸ hi
  · intro h
    exact ⟨.int x, List.mem_map.mpr ⟨x, h, rfl⟩, by rw [eqV_int, decide_eq_true_eq]⟩
theorem dpAll_ints {K : PySem.W.Frag} {H : Hp} : ∀ ns : List Int, DpAll K H (ns.map V.int) (ns.map PyData.int)
  | [] => .nil
  | n :: r => .cons (.int n) (dpAll_ints r)
theorem canLay_ints : ∀ ns : List Int, PyData.canLayAll0 (ns.map PyData.int) = true
  | [] => by rw [List.map_nil, PyData.canLayAll0]
  | n :: r => by
    rw [List.map_cons, PyData.canLayAll0, canLay_ints r]
    rfl
theorem depth_ints : ∀ ns : List Int, PyData.depthAll (ns.map PyData.int) = 0
  | [] => by rw [List.map_nil, PyData.depthAll]
  | n :: r => by
    rw [List.map_cons, PyData.depthAll, depth_ints r]
    rfl
theorem shT (ns : List Int) : SeqAt.shaped (.tuple (ns.map PyData.int)) = true := by
  simp [SeqAt.shaped, PyData.canLay0, canLay_ints, PyData.depth, depth_ints]
theorem shL (ns : List Int) : SeqAt.shaped (.list (ns.map PyData.int)) = true := by
  simp [SeqAt.shaped, PyData.canLay0, canLay_ints, PyData.depth, depth_ints]
theorem evT (ns ms : List Int) : PyData.eqv (.tuple (ns.map PyData.int)) (.tuple (ms.map PyData.int)) = decide (ns = ms) := by
  rw [PyData.eqv, PySem.W.ked_eqvAll]
theorem evL (ns ms : List Int) : PyData.eqv (.list (ns.map PyData.int)) (.list (ms.map PyData.int)) = decide (ns = ms) := by
  rw [PyData.eqv, PySem.W.ked_eqvAll]
theorem eqD_tup {K : PySem.W.Frag} {H : Hp} {a b : Addr} {ns ms : List Int} {Q : VK} (h1 : SqT K H a (ns.map V.int)) (h2 : SqT K H b (ms.map V.int)) (q : Q (.bl (decide (ns = ms))) H) : rEqD K (.ref a) (.ref b) H Q :=
  ⟨_, _, .tup h1 (dpAll_ints ns), .tup h2 (dpAll_ints ms), shT ns, shT ms, by rw [evT]; exact q⟩
theorem neD_tup {K : PySem.W.Frag} {H : Hp} {a b : Addr} {ns ms : List Int} {Q : VK} (h1 : SqT K H a (ns.map V.int)) (h2 : SqT K H b (ms.map V.int)) (q : Q (.bl (!decide (ns = ms))) H) : rNeD K (.ref a) (.ref b) H Q :=
  ⟨_, _, .tup h1 (dpAll_ints ns), .tup h2 (dpAll_ints ms), shT ns, shT ms, by rw [evT]; exact q⟩
theorem eqD_lst {K : PySem.W.Frag} {H : Hp} {a b : Addr} {ns ms : List Int} {Q : VK} (h1 : SqL K H a (ns.map V.int)) (h2 : SqL K H b (ms.map V.int)) (q : Q (.bl (decide (ns = ms))) H) : rEqD K (.ref a) (.ref b) H Q :=
  ⟨_, _, .lst h1 (dpAll_ints ns), .lst h2 (dpAll_ints ms), shL ns, shL ms, by rw [evL]; exact q⟩
theorem neD_lst {K : PySem.W.Frag} {H : Hp} {a b : Addr} {ns ms : List Int} {Q : VK} (h1 : SqL K H a (ns.map V.int)) (h2 : SqL K H b (ms.map V.int)) (q : Q (.bl (!decide (ns = ms))) H) : rNeD K (.ref a) (.ref b) H Q :=
  ⟨_, _, .lst h1 (dpAll_ints ns), .lst h2 (dpAll_ints ms), shL ns, shL ms, by rw [evL]; exact q⟩
/-! ## pupils -/
/-- at a a pupil whose rights are the ascending list of l -/
def PupAt (C : Addr) (H : Hp) (a : Addr) (l : List Int) : Prop := ∃ dx t, H a = some (.ins C dx [("rights", .ref t)]) ∧ H t = some (.tup ((norm l).map V.int))
theorem PupAt.same {C a : Addr} {H H' : Hp} {l : List Int} (e : Same H H') (h : PupAt C H a l) : PupAt C H' a l := by
  obtain ⟨dx, t, h1, h2⟩ := h
  exact ⟨dx, t, e _ _ h1, e _ _ h2⟩
theorem PupAt.gd {C a : Addr} {H H' : Hp} {l : List Int} (e : Gd H H') (h : PupAt C H a l) : PupAt C H' a l := by
  obtain ⟨dx, t, h1, h2⟩ := h
  exact ⟨dx, t, e.1 _ _ (np_ins _ _ _) h1, e.1 _ _ (np_tup _) h2⟩
theorem PupAt.eq {C a : Addr} {H : Hp} {l l' : List Int} (h : PupAt C H a l) (e : norm l = norm l') : PupAt C H a l' := by
  obtain ⟨dx, t, h1, h2⟩ := h
  exact ⟨dx, t, h1, by rw [← e]; exact h2⟩
/-- questions: each from 0 to 47 -/
def Qn (l : List Int) : Prop := ∀ k ∈ l, 0 ≤ k ∧ k < 48
def SqA (K : PySem.W.Frag) (H : Hp) (q : Addr) (xs : List V) : Prop := SqL K H q xs ∨ SqT K H q xs
def spInit (K : PySem.W.Frag) (C : Addr) : Sp := fun vs H Q _ => ∃ (x dx q : Addr) (l : List Int), vs = [.ref x, .ref q] ∧ H x = some (.ins C dx []) ∧ SqA K H q (l.map V.int) ∧ l.length ≤ 500 ∧ Qn l ∧
  ∀ H' t, H' x = some (.ins C dx [("rights", .ref t)]) → H' t = some (.tup ((norm l).map V.int)) → (∀ b o, b ≠ x → H b = some o → H' b = some o) → Q .non H'
theorem SqA.same {K : PySem.W.Frag} {H H' : Hp} {q : Addr} {xs : List V} (e : Same H H') (h : SqA K H q xs) : SqA K H' q xs := h.elim (fun h => .inl (e.seq h)) fun h => .inr (e.seqT h)
theorem pup_make {K : PySem.W.Frag} {C q : Addr} {H : Hp} {l : List Int} {R : Addr → Hp → Prop} {E : XK} (hq : SqA K H q (l.map V.int)) (hl : l.length ≤ 500) (hn : Qn l) (k : ∀ x H', H x = none → Same H H' → PupAt C H' x l → R x H') :
    ∀ x dx, H x = none → H dx = none → dx ≠ x → spInit K C (.ref x :: ([.ref q] ++ [])) (upd (upd H dx (.own x)) x (.ins C dx [])) (fun v H2 => v = .non ∧ R x H2) E := by
  intro x dx nx ndx ne
  have s0 : Same H (upd (upd H dx (.own x)) x (.ins C dx [])) := (same_upd ndx).mut nx
  refine ⟨x, dx, q, l, rfl, upd_same, hq.same s0, hl, hn, fun H' t h1 h2 h3 => ⟨rfl, k x H' nx (fun b o e => ?_) ⟨dx, t, h1, h2⟩⟩⟩
  exact h3 b o (ne_of_none e nx) (s0 b o e)
def spBin (C : Addr) (f : List Int → List Int → List Int) : Sp := fun vs H Q _ => ∃ (a b : Addr) (p q : List Int), vs = [.ref a, .ref b] ∧ PupAt C H a p ∧ PupAt C H b q ∧ ∀ x H', H x = none → Same H H' → PupAt C H' x (f p q) → Q (.ref x) H'
def spRel (C : Addr) (f : List Int → List Int → Bool) : Sp := fun vs H Q _ => ∃ (a b : Addr) (p q : List Int), vs = [.ref a, .ref b] ∧ PupAt C H a p ∧ PupAt C H b q ∧ ∀ H', Same H H' → Q (.bl (f (norm p) (norm q))) H'
def fOr (p q : List Int) : List Int := p ++ q
def fAnd (p q : List Int) : List Int := p.filter fun x => decide (x ∈ q)
def fSub (p q : List Int) : List Int := p.filter fun x => !decide (x ∈ q)
def fLe (p q : List Int) : Bool := p.all fun x => decide (x ∈ q)
def fEq (p q : List Int) : Bool := decide (p = q)
theorem norm_or (p q : List Int) : norm (norm p ++ norm q) = norm (p ++ q) := norm_ext fun x h0 h1 => by
  simp only [List.mem_append, mem_norm]
  exact ⟨fun h => h.elim (fun a => .inl a.2) fun a => .inr a.2, fun h => h.elim (fun a => .inl ⟨⟨h0, h1⟩, a⟩) fun a => .inr ⟨⟨h0, h1⟩, a⟩⟩
theorem qn_norm (l : List Int) : Qn (norm l) := fun k hk => (mem_norm.mp hk).1
theorem qn_append {l m : List Int} (h1 : Qn l) (h2 : Qn m) : Qn (l ++ m) := fun k hk => (List.mem_append.mp hk).elim (h1 k) (h2 k)
theorem qn_filter {l : List Int} {p : Int → Bool} (h1 : Qn l) : Qn (l.filter p) := fun k hk => h1 k (List.mem_filter.mp hk).1
/-- a comprehension over a list that keeps some of its ints as they are -/
theorem filter_take_succ {l : List Int} {p : Int → Bool} {i : Nat} {x : Int} (h : l[i]? = some x) : (l.take (i + 1)).filter p = (l.take i).filter p ++ (if p x = true then [x] else []) := by
  rw [List.take_add_one, h, List.filter_append]
  show _ ++ List.filter p [x] = _
  rw [List.filter_cons]
  rfl
theorem get_map_int {l : List Int} {i : Nat} {v : V} (h : (l.map V.int)[i]? = some v) : ∃ x, l[i]? = some x ∧ v = .int x := by
  rw [List.getElem?_map] at h
  cases e : l[i]? with
  | none => rw [e] at h; cases h
  | some x => rw [e] at h; exact ⟨x, rfl, (Option.some.inj h).symm⟩
theorem catA_k {K : PySem.W.Frag} {H : Hp} {a b : Addr} {xs ys : List V} {Q : VK} (h1 : SqT K H a xs) (h2 : SqT K H b ys) (hl : xs.length + ys.length ≤ sizeLine) (k : ∀ p H', Same H H' → SqT K H' p (xs ++ ys) → Q (.ref p) H') : rCatA K (.ref a) (.ref b) H Q := by
  refine ⟨a, b, xs, ys, rfl, rfl, h1, h2, hl, fun e => ?_, fun _ e => ?_, fun _ _ p hp => k p _ (same_upd hp) (.inl (.inl upd_same))⟩
  · subst e
    exact k b H (Same.refl H) h2
  · subst e
    exact k a H (Same.refl H) (by rw [List.append_nil]; exact h1)
section
variable {K : PySem.W.Frag} {a : Addr} {tt : TT} {te : TE} {vs : List Nat} {σ : St} {H1 : Hp} {D : Addr} {Qd : Hp → Prop} {j : Nat}
/-- one turn of a comprehension that keeps some ints as they are -/
theorem filt_turn {ns : List Int} {p : Int → Bool} {i : Nat} {x : Int} {H : Hp} (nD : H1 D = none) (hlen : ns.length < 100000) (hx : ns[i]? = some x)
    (ht : ∀ H', Same H1 H' → ∀ R : Bool → Hp → Prop, R (p x) H' → tt ((wipe σ vs).set j (some (.int x))) H' R) (he : ∀ H', Same H1 H' → ∀ R : VK, R (.int x) H' → te ((wipe σ vs).set j (some (.int x))) H' R)
    (h : Same H1 H ∧ H D = some (.lst (((ns.take i).filter p).map V.int))) :
    tt ((wipe σ vs).set j (some (.int x))) H fun b H3 => if b = true then te ((wipe σ vs).set j (some (.int x))) H3 fun y H4 => ∃ acc, H4 D = some (.lst acc) ∧ acc.length < sizeLine ∧ (Same H1 (upd H4 D (.lst (acc ++ [y]))) ∧ upd H4 D (.lst (acc ++ [y])) D = some (.lst (((ns.take (i + 1)).filter p).map V.int)))
      else (Same H1 H3 ∧ H3 D = some (.lst (((ns.take (i + 1)).filter p).map V.int))) := by
  obtain ⟨e, hD⟩ := h
  refine ht H e _ ?_
  have ef := filter_take_succ (p := p) hx
  cases hp : p x with
  | true =>
    rw [hp] at ef
    refine iteT (he H e _ ⟨_, hD, ?_, e.mut nD, ?_⟩)
    · rw [List.length_map]
      have h1 := List.length_filter_le p (ns.take i)
      have h2 := List.length_take_le i ns
      have h3 : (ns.take i).length ≤ ns.length := by rw [List.length_take]; exact Nat.min_le_right _ _
      rw [sizeLine_eq]; omega
    · rw [upd_same, ef, List.map_append]
      rfl
  | false =>
    rw [hp] at ef
    refine iteF ⟨e, ?_⟩
    rw [ef, if_neg (by decide), List.append_nil]
    exact hD
def lcT_filter {ns : List Int} (p : Int → Bool) (hs : SqT K H1 a (ns.map V.int)) (nD : H1 D = none) (hlen : ns.length < 100000) (hw : ∀ x, wipe ((wipe σ vs).set j (some x)) vs = wipe σ vs)
    (ht : ∀ x ∈ ns, ∀ H', Same H1 H' → ∀ R : Bool → Hp → Prop, R (p x) H' → tt ((wipe σ vs).set j (some (.int x))) H' R) (he : ∀ x ∈ ns, ∀ H', Same H1 H' → ∀ R : VK, R (.int x) H' → te ((wipe σ vs).set j (some (.int x))) H' R)
    (k : ∀ H', Same H1 H' → H' D = some (.lst ((ns.filter p).map V.int)) → Qd H') := 
  lc_tup (K := K) (a := a) (xs := ns.map V.int) (g := gName j) (tt := tt) (te := te) (vs := vs) (σ := σ) (H1 := H1) (D := D) (Qd := Qd) (fun i H => Same H1 H ∧ H D = some (.lst (((ns.take i).filter p).map V.int))) ⟨same_upd nD, upd_same⟩ (fun i H _ h => h.1.seqT hs)
    (fun i y H hi h => by
      obtain ⟨x, hx, rfl⟩ := get_map_int hi
      have hm := List.mem_of_getElem? hx
      exact ⟨hw _, filt_turn nD hlen hx (ht x hm) (he x hm) h⟩)
    (fun H h => k H h.1 (by have := h.2; rw [List.length_map, List.take_length] at this; exact this))
def lcL_filter {ns : List Int} (p : Int → Bool) (hs : SqL K H1 a (ns.map V.int)) (nD : H1 D = none) (hlen : ns.length < 100000) (hw : ∀ x, wipe ((wipe σ vs).set j (some x)) vs = wipe σ vs)
    (ht : ∀ x ∈ ns, ∀ H', Same H1 H' → ∀ R : Bool → Hp → Prop, R (p x) H' → tt ((wipe σ vs).set j (some (.int x))) H' R) (he : ∀ x ∈ ns, ∀ H', Same H1 H' → ∀ R : VK, R (.int x) H' → te ((wipe σ vs).set j (some (.int x))) H' R)
    (k : ∀ H', Same H1 H' → H' D = some (.lst ((ns.filter p).map V.int)) → Qd H') := 
  lc_list (K := K) (a := a) (xs := ns.map V.int) (g := gName j) (tt := tt) (te := te) (vs := vs) (σ := σ) (H1 := H1) (D := D) (Qd := Qd) (fun i H => Same H1 H ∧ H D = some (.lst (((ns.take i).filter p).map V.int))) ⟨same_upd nD, upd_same⟩ (fun i H _ h => h.1.seq hs)
    (fun i y H hi h => by
      obtain ⟨x, hx, rfl⟩ := get_map_int hi
      have hm := List.mem_of_getElem? hx
      exact ⟨hw _, filt_turn nD hlen hx (ht x hm) (he x hm) h⟩)
    (fun H h => k H h.1 (by have := h.2; rw [List.length_map, List.take_length] at this; exact this))
def rgI (n : Nat) : List Int := (List.range n).map fun i => ((i : Nat) : Int)
theorem rgI_get {n i : Nat} (h : i < n) : (rgI n)[i]? = some (i : Int) := by
  unfold rgI
  rw [List.getElem?_map, List.getElem?_range h]
  rfl
theorem rgI_length (n : Nat) : (rgI n).length = n := by unfold rgI; rw [List.length_map, List.length_range]
theorem mem_rgI {n : Nat} {x : Int} : x ∈ rgI n ↔ 0 ≤ x ∧ x < n := by
  unfold rgI
  rw [List.mem_map]
  constructor
  · rintro ⟨i, h, rfl⟩
    have := List.mem_range.mp h
    omega
  · rintro ⟨h0, h1⟩
    exact ⟨x.toNat, List.mem_range.mpr (by omega), by omega⟩
def lcR_filter {n : Nat} (p : Int → Bool) (nD : H1 D = none) (hlen : n < 100000) (hw : ∀ x, wipe ((wipe σ vs).set j (some x)) vs = wipe σ vs)
    (ht : ∀ x ∈ rgI n, ∀ H', Same H1 H' → ∀ R : Bool → Hp → Prop, R (p x) H' → tt ((wipe σ vs).set j (some (.int x))) H' R) (he : ∀ x ∈ rgI n, ∀ H', Same H1 H' → ∀ R : VK, R (.int x) H' → te ((wipe σ vs).set j (some (.int x))) H' R)
    (k : ∀ H', Same H1 H' → H' D = some (.lst (((rgI n).filter p).map V.int)) → Qd H') := 
  lc_range (lo := 0) (n := n) (g := gName j) (tt := tt) (te := te) (vs := vs) (σ := σ) (H1 := H1) (D := D) (Qd := Qd) (fun i H => Same H1 H ∧ H D = some (.lst ((((rgI n).take i).filter p).map V.int))) ⟨same_upd nD, upd_same⟩
    (fun i H hi h => by
      have hx := rgI_get hi
      have hm := List.mem_of_getElem? hx
      have e0 : (0 : Int) + ((i : Nat) : Int) = (i : Int) := Int.zero_add _
      rw [e0]
      exact ⟨hw _, filt_turn nD (by rw [rgI_length]; exact hlen) hx (ht _ hm) (he _ hm) h⟩)
    (fun H h => k H h.1 (by have := h.2; rw [List.take_of_length_le (by rw [rgI_length]; exact Nat.le_refl n)] at this; exact this))
theorem in_k {K : PySem.W.Frag} {neg : Bool} {x : Int} {q : Addr} {ns : List Int} {H : Hp} {Q : VK} (h : SqL K H q (ns.map V.int) ∨ SqT K H q (ns.map V.int)) (k : Q (.bl (if neg then !decide (x ∈ ns) else decide (x ∈ ns))) H) : rIn K neg (.int x) (.ref q) H Q :=
  ⟨q, _, rfl, h, rfl, flat_ints ns, by rw [in_ints]; exact k⟩
theorem tup_of {K : PySem.W.Frag} {H : Hp} {q : Addr} {xs : List V} (h : H q = some (.tup xs)) : SqT K H q xs := .inl (.inl h)
theorem lst_of {K : PySem.W.Frag} {H : Hp} {q : Addr} {xs : List V} (h : H q = some (.lst xs)) : SqL K H q xs := .inl (.inl h)
end
def Draws (K : PySem.W.Frag) (p : Addr) (c : Nat) (H H' : Hp) : Prop := Gd H H' ∧ PoolOk K p c H'
/-- _law_some: a new list of fewer than m questions -/
def spSome (K : PySem.W.Frag) : Sp := fun vs H Q _ => ∃ (p : Addr) (c : Nat) (m : Int), vs = [.ref p, .int m] ∧ PoolOk K p c H ∧ c + 200 < LIM ∧ 0 < m ∧ m ≤ 100 ∧
  ∀ H' D l, H D = none → Gd H H' → PoolOk K p (c + 200) H' → H' D = some (.lst (l.map V.int)) → Qn l → (l.length : Int) < m → Q (.ref D) H'
/-- _law_set: the ascending list -/
def spSet (K : PySem.W.Frag) : Sp := fun vs H Q _ => ∃ (q : Addr) (l : List Int), vs = [.ref q] ∧ SqL K H q (l.map V.int) ∧
  ∀ H' D, H D = none → Same H H' → H' D = some (.lst ((norm l).map V.int)) → Q (.ref D) H'
theorem ask_rg : ask48 = rgI 48 := rfl
theorem norm_rg (l : List Int) : (rgI 48).filter (fun x => decide (x ∈ l)) = norm l := rfl
theorem own_bin {C x y : Addr} {f : List Int → List Int → List Int} {l m : List Int} {H : Hp} {Q : VK} {E : XK} (px : PupAt C H x l) (py : PupAt C H y m) (k : ∀ z H', H z = none → Same H H' → PupAt C H' z (f l m) → Q (.ref z) H') :
    rOwn C (spBin C f) E (.ref x) (.ref y) H Q := by
  obtain ⟨dx, t, hx, _⟩ := id px
  obtain ⟨dy, u, hy, _⟩ := id py
  exact ⟨x, y, dx, dy, _, _, rfl, rfl, hx, hy, x, y, l, m, rfl, px, py, k⟩
theorem own_rel {C x y : Addr} {f : List Int → List Int → Bool} {l m : List Int} {H : Hp} {Q : VK} {E : XK} (px : PupAt C H x l) (py : PupAt C H y m) (k : ∀ H', Same H H' → Q (.bl (f (norm l) (norm m))) H') :
    rOwn C (spRel C f) E (.ref x) (.ref y) H Q := by
  obtain ⟨dx, t, hx, _⟩ := id px
  obtain ⟨dy, u, hy, _⟩ := id py
  exact ⟨x, y, dx, dy, _, _, rfl, rfl, hx, hy, x, y, l, m, rfl, px, py, k⟩
theorem fld_rights {K : PySem.W.Frag} {C x : Addr} {l : List Int} {H : Hp} {Q : VK} (px : PupAt C H x l) (c : Cls K C) (n : NoAttr K C "rights") (k : ∀ t, H t = some (.tup ((norm l).map V.int)) → Q (.ref t) H) :
    ∃ a C dx fs v, V.ref x = .ref a ∧ H a = some (.ins C dx fs) ∧ Cls K C ∧ NoAttr K C "rights" ∧ fs.lookup ("rights" : Str) = some v ∧ Q v H := by
  obtain ⟨dx, t, hx, ht⟩ := px
  exact ⟨x, C, dx, _, .ref t, rfl, hx, c, n, rfl, k t ht⟩
/-! the pure facts -/
theorem le_within {l m : List Int} (h1 : Qn l) : fLe (norm l) (norm m) = decide (l.filter (fun x => !decide (x ∈ m)) = []) := by
  rw [Bool.eq_iff_iff]
  unfold fLe
  rw [List.all_eq_true, decide_eq_true_eq, List.filter_eq_nil_iff]
  constructor
  · intro h x hx
    have := h x (mem_norm.mpr ⟨h1 x hx, hx⟩)
    rw [decide_eq_true_eq, mem_norm] at this
    simp [this.2]
  · intro h x hx
    obtain ⟨a, b⟩ := mem_norm.mp hx
    have := h x b
    rw [decide_eq_true_eq, mem_norm]
    exact ⟨a, by simpa using this⟩
theorem or_within {l m : List Int} (h1 : Qn l) : fEq (norm (fOr l m)) (norm m) = decide (l.filter (fun x => !decide (x ∈ m)) = []) := by
  rw [Bool.eq_iff_iff]
  unfold fEq fOr
  rw [decide_eq_true_eq, decide_eq_true_eq, List.filter_eq_nil_iff, norm_eq_iff]
  constructor
  · intro h x hx
    have := (h x (h1 x hx).1 (h1 x hx).2).mp (List.mem_append.mpr (.inl hx))
    simp [this]
  · intro h x h0 h1
    rw [List.mem_append]
    exact ⟨fun a => a.elim (fun b => by simpa using h x b) id, .inr⟩
theorem and_within {l m : List Int} (h1 : Qn l) : fEq (norm (fAnd l m)) (norm l) = decide (l.filter (fun x => !decide (x ∈ m)) = []) := by
  rw [Bool.eq_iff_iff]
  unfold fEq fAnd
  rw [decide_eq_true_eq, decide_eq_true_eq, List.filter_eq_nil_iff, norm_eq_iff]
  constructor
  · intro h x hx
    have := (h x (h1 x hx).1 (h1 x hx).2).mpr hx
    rw [List.mem_filter] at this
    simp [of_decide_eq_true this.2]
  · intro h x h0 h1
    rw [List.mem_filter]
    exact ⟨fun a => a.1, fun a => ⟨a, by simpa using h x a⟩⟩
theorem le_or (l m : List Int) : fLe (norm l) (norm (fOr l m)) = true := by
  unfold fLe fOr
  rw [List.all_eq_true]
  intro x hx
  obtain ⟨a, b⟩ := mem_norm.mp hx
  exact decide_eq_true (mem_norm.mpr ⟨a, List.mem_append.mpr (.inl b)⟩)
theorem le_and (l m : List Int) : fLe (norm (fAnd l m)) (norm m) = true := by
  unfold fLe fAnd
  rw [List.all_eq_true]
  intro x hx
  obtain ⟨a, b⟩ := mem_norm.mp hx
  exact decide_eq_true (mem_norm.mpr ⟨a, of_decide_eq_true (List.mem_filter.mp b).2⟩)
theorem sub_and (l m : List Int) : norm (fAnd (fSub l m) m) = [] := by
  unfold norm fAnd fSub
  rw [List.filter_eq_nil_iff]
  intro x _ h
  have h := of_decide_eq_true h
  rw [List.mem_filter, List.mem_filter] at h
  obtain ⟨⟨_, h2⟩, h3⟩ := h
  have := of_decide_eq_true h3
  simp [this] at h2
theorem sub_or_and (l m : List Int) : norm (fOr (fSub l m) (fAnd l m)) = norm l := norm_ext fun x h0 h1 => by
  unfold fOr fSub fAnd
  rw [List.mem_append, List.mem_filter, List.mem_filter]
  by_cases h : x ∈ m <;> simp [h]
theorem and_set (l m : List Int) : norm (fAnd l m) = (norm l).filter fun x => decide (x ∈ m) := by
  unfold fAnd
  rw [norm_filter]
theorem sub_set (l m : List Int) : norm (fSub l m) = (norm l).filter fun x => !decide (x ∈ m) := by
  unfold fSub
  rw [norm_filter]
theorem ne_false {l m : List Int} (e : l = m) : (!decide (l = m)) = false := by simp [e]
def spPair (K : PySem.W.Frag) : Sp := fun vs H Q _ => ∃ (o t : Addr) (l m : List Int), vs = [.ref o, .ref t] ∧ H o = some (.lst (l.map V.int)) ∧ H t = some (.lst (m.map V.int)) ∧ Qn l ∧ Qn m ∧ l.length ≤ 200 ∧ m.length ≤ 200 ∧ ∀ H', Same H H' → Q (.bl true) H'
theorem kit_bool {K : PySem.W.Frag} : PySem.W.kitOne K (.type "bool") (.type "bool") = some true := kit_ty (by decide +kernel)
theorem dec_self (b : Bool) : (!decide (V.bl b = V.bl b)) = false := by simp
theorem rg_ints (n : Nat) : rgV 0 (n : Int) = (rgI n).map V.int := by
  unfold rgV rgI
  rw [List.map_map, Int.sub_zero, Int.toNat_natCast]
  refine List.map_congr_left fun i _ => ?_
  show V.int (0 + (i : Int)) = V.int (i : Int)
  rw [Int.zero_add]
/-- a list of questions at r -/
def QsAt (H : Hp) (r : Addr) (l : List Int) : Prop := H r = some (.lst (l.map V.int)) ∧ Qn l ∧ l.length ≤ 200
theorem QsAt.gd {H H' : Hp} {r : Addr} {l : List Int} (e : Gd H H') (h : QsAt H r l) : QsAt H' r l := ⟨e.1 _ _ (np_ints l) h.1, h.2⟩
theorem QsAt.same {H H' : Hp} {r : Addr} {l : List Int} (e : Same H H') (h : QsAt H r l) : QsAt H' r l := h.gd e.gd
theorem two_at {x y : V} {r : Int} (h0 : 0 ≤ r) (h1 : r < 2) : atI [x, y] r = some (if r = 0 then x else y) := by
  rcases (show r = 0 ∨ r = 1 by omega) with e | e
  · subst e; exact atI0
  · subst e; exact atI1
/-! ## a pupil beside the ascending list of its questions -/
theorem np_refs (xs : List Addr) : ¬ isPool (.lst (xs.map V.ref)) := by
  rintro ⟨a, c, i, b, s, h⟩
  cases xs with
  | nil => cases h
  | cons x r =>
    injection h with h
    injection h with _ h
    cases r with
    | nil => cases h
    | cons y r => injection h with h _; cases h
def Pr (C : Addr) (H : Hp) (x y : Addr) : Prop := ∃ l, PupAt C H x l ∧ H y = some (.lst ((norm l).map V.int))
theorem Pr.same {C x y : Addr} {H H' : Hp} (e : Same H H') (h : Pr C H x y) : Pr C H' x y := let ⟨l, a, b⟩ := h; ⟨l, a.same e, e _ _ b⟩
theorem Pr.gd {C x y : Addr} {H H' : Hp} (e : Gd H H') (h : Pr C H x y) : Pr C H' x y := let ⟨l, a, b⟩ := h; ⟨l, a.gd e, e.1 _ _ (np_ints _) b⟩
theorem PupAt.mut {C x q : Addr} {H : Hp} {l : List Int} {zs : List V} {o : HO} (hq : H q = some (.lst zs)) (h : PupAt C H x l) : PupAt C (upd H q o) x l := by
  obtain ⟨dx, t, h1, h2⟩ := h
  exact ⟨dx, t, by rw [upd_ne (ne_of h1 hq (by intro z; cases z))]; exact h1, by rw [upd_ne (ne_of h2 hq (by intro z; cases z))]; exact h2⟩
theorem Pr.mut {C x y q : Addr} {H : Hp} {zs : List V} {o : HO} (hq : H q = some (.lst zs)) (ne : y ≠ q) (h : Pr C H x y) : Pr C (upd H q o) x y := let ⟨l, a, b⟩ := h; ⟨l, a.mut hq, by rw [upd_ne ne]; exact b⟩
theorem Pr.ne {C x y q z : Addr} {H : Hp} {zs : List V} (h : Pr C H x y) (hq : H q = some (.lst (.ref z :: zs))) : y ≠ q := by
  obtain ⟨l, a, b⟩ := h
  refine ne_of b hq fun e => ?_
  injection e with e
  cases hn : norm l with
  | nil => rw [hn] at e; cases e
  | cons u r => rw [hn] at e; injection e with e _; cases e
def Tri (C : Addr) (H : Hp) (PL SL : Addr) (xs ys : List Addr) : Prop := H PL = some (.lst (xs.map V.ref)) ∧ H SL = some (.lst (ys.map V.ref)) ∧ xs.length = 3 ∧ ys.length = 3 ∧ ∀ (k : Nat) x y, xs[k]? = some x → ys[k]? = some y → Pr C H x y
theorem Tri.gd {C PL SL : Addr} {H H' : Hp} {xs ys : List Addr} (e : Gd H H') (h : Tri C H PL SL xs ys) : Tri C H' PL SL xs ys :=
  ⟨e.1 _ _ (np_refs _) h.1, e.1 _ _ (np_refs _) h.2.1, h.2.2.1, h.2.2.2.1, fun k x y a b => (h.2.2.2.2 k x y a b).gd e⟩
theorem at_ref {xs : List Addr} {r : Int} (h0 : 0 ≤ r) (h1 : r < (xs.length : Int)) : ∃ (j : Nat) (x : Addr), xs[j]? = some x ∧ r = (j : Int) ∧ j < xs.length ∧ atI (xs.map V.ref) r = some (.ref x) := by
  obtain ⟨j, rfl⟩ : ∃ j : Nat, r = (j : Int) := ⟨r.toNat, by omega⟩
  have hj : j < xs.length := by omega
  refine ⟨j, xs[j], List.getElem?_eq_getElem hj, rfl, hj, atI_nat ?_⟩
  rw [List.getElem?_map, List.getElem?_eq_getElem hj]
  rfl
theorem get3 {xs : List Addr} {j : Nat} (h : xs.length = 3) (hj : j < 3) : ∃ x, xs[j]? = some x := ⟨xs[j]'(by omega), List.getElem?_eq_getElem _⟩
def spHas (C : Addr) : Sp := fun vs H Q _ => ∃ (a : Addr) (p : List Int) (z : Int), vs = [.ref a, .int z] ∧ PupAt C H a p ∧ Q (.bl (decide (z ∈ norm p))) H
def spLen (C : Addr) : Sp := fun vs H Q _ => ∃ (a : Addr) (p : List Int), vs = [.ref a] ∧ PupAt C H a p ∧ Q (.int ((norm p).length : Nat)) H
def spAdded (C : Addr) : Sp := fun vs H Q _ => ∃ (a : Addr) (p : List Int) (z : Int), vs = [.ref a, .int z] ∧ PupAt C H a p ∧ 0 ≤ z ∧ z < 48 ∧ ∀ x H', H x = none → Same H H' → PupAt C H' x (p ++ [z]) → Q (.ref x) H'
def spAfter (K : PySem.W.Frag) (C : Addr) : Sp := fun vs H Q _ => ∃ (p PL SL : Addr) (c : Nat) (xs ys : List Addr), vs = [.ref p, .ref PL, .ref SL] ∧ PoolOk K p c H ∧ c + 100 < LIM ∧ Tri C H PL SL xs ys ∧
  ∀ H' t x y, Gd H H' → PoolOk K p (c + 100) H' → H' t = some (.tup [.ref x, .ref y]) → H y = none → Pr C H' x y → Q (.ref t) H'
def spRight (C : Addr) : Sp := fun vs H Q _ => ∃ (PL SL : Addr) (xs ys : List Addr), vs = [.ref PL, .ref SL] ∧ Tri C H PL SL xs ys ∧ ∀ H', Same H H' → Q (.bl true) H'
theorem own_has {C x : Addr} {neg : Bool} {z : Int} {p : List Int} {H : Hp} {Q : VK} {E : XK} (px : PupAt C H x p) (k : Q (.bl (if neg then !decide (z ∈ norm p) else decide (z ∈ norm p))) H) : rOwnIn C (spHas C) E neg (.int z) (.ref x) H Q := by
  obtain ⟨dx, t, hx, _⟩ := id px
  exact ⟨x, dx, _, rfl, hx, x, p, z, rfl, px, _, rfl, k⟩
theorem own_len {C x : Addr} {p : List Int} {H : Hp} {Q : VK} {E : XK} (px : PupAt C H x p) (k : Q (.int ((norm p).length : Nat)) H) : rOwnLen C (spLen C) E [.ref x] H Q := by
  obtain ⟨dx, t, hx, _⟩ := id px
  have := norm_len p
  exact ⟨x, dx, _, rfl, hx, x, p, rfl, px, _, rfl, by omega, by omega, k⟩
theorem le_listW (l m : List Int) : fLe (norm l) (norm m) = decide ((norm l).filter (fun x => !decide (x ∈ norm m)) = []) := by
  have := le_within (m := norm m) (qn_norm l)
  rw [norm_norm, norm_norm] at this
  exact this
theorem dpAll_bls {K : PySem.W.Frag} {H : Hp} : ∀ bs : List Bool, DpAll K H (bs.map V.bl) (bs.map PyData.bool)
  | [] => .nil
  | n :: r => .cons (.bl n) (dpAll_bls r)
theorem canLay_bls : ∀ ns : List Bool, PyData.canLayAll0 (ns.map PyData.bool) = true
  | [] => by rw [List.map_nil, PyData.canLayAll0]
  | n :: r => by
    rw [List.map_cons, PyData.canLayAll0, canLay_bls r]
    rfl
theorem depth_bls : ∀ ns : List Bool, PyData.depthAll (ns.map PyData.bool) = 0
  | [] => by rw [List.map_nil, PyData.depthAll]
  | n :: r => by
    rw [List.map_cons, PyData.depthAll, depth_bls r]
    rfl
theorem shB (ns : List Bool) : SeqAt.shaped (.list (ns.map PyData.bool)) = true := by
  simp [SeqAt.shaped, PyData.canLay0, canLay_bls, PyData.depth, depth_bls]
theorem evAll_bls : ∀ ns : List Bool, PyData.eqvAll (ns.map PyData.bool) (ns.map PyData.bool) = true
  | [] => by rw [List.map_nil, PyData.eqvAll]
  | n :: r => by
    rw [List.map_cons, PyData.eqvAll, evAll_bls r]
    cases n <;> simp [PyData.eqv]
theorem neD_bls {K : PySem.W.Frag} {H : Hp} {a b : Addr} {ns : List Bool} {Q : VK} (h1 : SqL K H a (ns.map V.bl)) (h2 : SqL K H b (ns.map V.bl)) (q : Q (.bl false) H) : rNeD K (.ref a) (.ref b) H Q :=
  ⟨_, _, .lst h1 (dpAll_bls ns), .lst h2 (dpAll_bls ns), shB ns, shB ns, by rw [PyData.eqv, evAll_bls]; exact q⟩
theorem take_get {α : Type} {l : List α} {i : Nat} {x : α} (h : l[i]? = some x) : l.take (i + 1) = l.take i ++ [x] := by
  rw [List.take_add_one, h]
  rfl
end L2

namespace L2
open PySem PySem.Spec PyProof.Rows
/-! ## own errors whose __init__ calls the base's by the base's name -/
/-- what the base class B says of B.__init__ -/
structure BaseI (K : PySem.W.Frag) (B : Addr) : Prop where
  ga : PySem.W.specialIn K (.ref B) "__getattribute__" = some (some (.builtin "type.__getattribute__"))
  ty : PySem.W.typeIn K (.ref B) = some (.type "type")
  rd : PySem.W.readsIn K B (.type "type") = true
  fi : PySem.W.findCls K (.ref B) (.type "type") "__init__" = some (.val (.builtin "ValueError.__init__"))
section
variable {X : Cx} {o e : Expr} {es : List Expr} {to te : TE} {ta : TA} {f x : Str} {p p' p1 p2 pos : Pos} {B : Addr}
theorem pe_binit {pl : Sem Bool} (T : BaseI X.K B) (hg : Gl X x) (hm : X.mg x = some (.ref B)) (ha : PA X (e :: es) ta) (hdb : (x == ("__debug__" : Str)) = false := by decide)
    (hc : eval (.Call (.Attribute (.Name x p1) "__init__" p2) (e :: es) [] pos) X.env = (do
      let ov ← eval (.Name x p1) X.env
      standAt p2.atName
      let (f, first) ← holding [ov] (getMethod ov "__init__" pl)
      callWith pos f first (backTo pos (starEach (e :: es) X.env)) (backToKw pos (keywordEach [] X.env))) := by rfl)
    (he : starEach (e :: es) X.env = (false, eval e X.env) :: starEach es X.env := by rfl) (hpl : (backTo pos (starEach es X.env)).any (·.1) = false := by rfl) :
    PE X (.Call (.Attribute (.Name x p1) "__init__" p2) (e :: es) [] pos) (tVeI X.K ta) := by
  refine ⟨fun pins s σ H Q I h => ?_⟩
  refine PySem.W.methodCall_KW (ld_glob I hg hm ?_ hdb) hc
  obtain ⟨m, fr⟩ := I.fr
  refine PySem.W.method_of_cls fr I.ok.mod.kin T.ga (PySem.W.cls_val fr I.ok.mod.kin T.ty T.rd T.fi (by decide +kernel) ?_)
  show wpAny _ _ (callWith pos (Value.builtin "ValueError.__init__") [] (backTo pos (starEach (e :: es) X.env)) []) _ _ _
  refine callWith_method1 (thn (ha.run pos pins _ σ H _ (I.tok _) h) fun us s1 ⟨vs, H1, I1, r1, a, C, ws, ev, hl, T, ea, q⟩ => ?_) he hpl
  subst ev
  cases r1 with
  | @cons _ u0 _ ur ra rw' =>
    obtain rfl : u0 = Value.ref a := ra
    exact oinit_ok T I1 ea (by rw [← Paired.length rw', sizeLine_eq]; omega) fun s' J => ⟨.non, H1, J, rfl, q⟩
end
/-! ## a class made, a method called, where what is raised is wished for at the slots -/
section
variable {X : Cx} {CX : CXT} {k : Nat} {f C : Addr} {fd : FuncData} {ps : List Str} {sp : Sp} {E : St → XK} {x m : Str} {p pos apos : Pos} {e o : Expr} {es : List Expr} {ta : TE} {t : TA}
def tMakeS (C : Addr) (sp : Sp) (E : St → XK) (t : TA) : TE := fun σ H Q => t σ H fun vs H1 => ∀ x dx, H1 x = none → H1 dx = none → dx ≠ x →
  sp (.ref x :: vs) (upd (upd H1 dx (.own x)) x (.ins C dx [])) (fun v H2 => v = .non ∧ Q (.ref x) H2) (E σ)
theorem run_makeS {pins : List (Addr × Obj)} {σ : St} {H : Hp} {s : Shared} {Q : VK} {us : List Value} {vs : List V} (M : Mk X.K C f) (F : FnOk X.prog X.w X.K X.mg X.base CX k f fd ps sp) (hr : Room (k + 1) X.A) (hb : Binds X.K fd ps [])
    (hx : PassesAt CX X σ (E σ)) (I : Inv X pins σ H s) (r : Vals vs us)
    (h : ∀ x dx, H x = none → H dx = none → dx ≠ x → sp (.ref x :: vs) (upd (upd H dx (.own x)) x (.ins C dx [])) (fun v H2 => v = .non ∧ Q (.ref x) H2) (E σ)) : wpAny (model X.prog X.w) X.A (call (.ref C) us) (EP X pins σ Q) X.xe s := by
  let n := s.heap.objs.size
  have want := h (n + 1) n (I.hok.fresh (Nat.le_succ n)) (I.hok.fresh (Nat.le_refl n)) (Nat.ne_of_lt (Nat.lt_succ_self n))
  have J := Inv.made (C := C) I
  have rr : Vals (V.ref (n + 1) :: vs) (Value.ref (n + 1) :: us) := Paired.cons rfl r
  have len : (Value.ref (n + 1) :: us).length = ps.length := rr.length.symm.trans (F.len _ _ _ _ want)
  have bnd := hb _ (Value.ref (n + 1) :: us) J.kIn (by rw [List.append_nil]; exact len)
  rw [List.append_nil] at bnd
  have body := F.run _ X.stack _ _ ⟨Value.ref (n + 1) :: us, []⟩ (Value.ref (n + 1) :: us) _ _ (E σ) (hr.make C us []) (J.env0.make C us []) bnd rr want
  refine wpAny_call (make_map (f := f) I.kIn M.makes M.init (beq_iff_eq.mp M.fn) (codeAny_mono body fun res s' hq => ?_))
  match res, hq with
  | .error er, hq => exact hx pins _ _ er s' J hq
  | .ok (.ret u), hq =>
    obtain ⟨v, H', I3, rv, ev, q3⟩ := J.after hq
    subst ev
    exact ⟨rv, V.ref (n + 1), H', I3, rfl, q3⟩
  | .ok .next, hq => exact hq.elim
  | .ok .brk, hq => exact hq.elim
  | .ok .cont, hq => exact hq.elim
theorem pe_makeS (M : Mk X.K C f) (F : FnOk X.prog X.w X.K X.mg X.base CX k f fd ps sp) (hr : Room (k + 1) X.A) (hg : Gl X x) (hm : X.mg x = some (.ref C)) (hb : Binds X.K fd ps []) (hx : ∀ σ, PassesAt CX X σ (E σ))
    (ha : PA X (e :: es) t) (hdb : (x == ("__debug__" : Str)) = false := by decide) (he : starEach (e :: es) X.env = (false, eval e X.env) :: starEach es X.env := by rfl) (hpl : (backTo pos (starEach es X.env)).any (·.1) = false := by rfl) :
    PE X (.Call (.Name x p) (e :: es) [] pos) (tMakeS C sp E t) :=
  ⟨fun pins s σ H Q I h => wpAny_Call_Name_kw (ld_glob I hg hm
    (PySem.W.callWith_K (h₀ := X.base) I.ok.mod.kin M.kp (thn (ha.run pos pins s σ H _ I h) fun us s1 ⟨vs, H1, I1, r, q⟩ => ⟨I1.kIn, run_makeS M F hr hb (hx σ) I1 r q⟩) he hpl) hdb)⟩
/-- o.m(e, ..), what is raised wished for at the slots -/
def tMethT (C : Addr) (m : Str) (sp : Sp) (E : St → XK) (ta : TE) (t : TA) : TE := fun σ H Q => ta σ H fun x H1 => ∃ a dx fs, x = .ref a ∧ H1 a = some (.ins C dx fs) ∧ fs.lookup m = none ∧ t σ H1 fun vs H2 => sp (.ref a :: vs) H2 Q (E σ)
theorem pe_methT {pl : Sem Bool} (ho : PE X o ta) (c : Cls X.K C) (hm : Meth X.K C m f) (F : FnOk X.prog X.w X.K X.mg X.base CX k f fd ps sp) (hr : Room k X.A) (hb : Binds X.K fd ps []) (hx : ∀ σ, PassesAt CX X σ (E σ)) (ha : PA X (e :: es) t)
    (hst : starEach (e :: es) X.env = (false, eval e X.env) :: starEach es X.env := by rfl) (hpl : (backTo pos (starEach es X.env)).any (·.1) = false := by rfl)
    (ht : eval (.Call (.Attribute o m apos) (e :: es) [] pos) X.env = (eval o X.env >>= fun ov => standAt apos.atName >>= fun _ => holding [ov] (getMethod ov m pl) >>= fun ff =>
      callWith pos ff.1 ff.2 (backTo pos (starEach (e :: es) X.env)) (backToKw pos (keywordEach [] X.env))) := by rfl) :
    PE X (.Call (.Attribute o m apos) (e :: es) [] pos) (tMethT C m sp E ta t) := by
  refine ⟨fun pins s σ H Q I h => ?_⟩
  refine PySem.W.methodCall_KW (pl := pl) (thn (ho.run pins s σ H _ I h) fun u s1 hh => ?_) ht
  obtain ⟨x, H1, I1, rx, a, dx, fs, ex, ea, l, q⟩ := hh
  subst ex
  cases rx
  refine getmeth_ok I1 ea c hm l (PySem.W.callWith_K (first := [.ref a]) (h₀ := X.base) I.ok.mod.kin hm.kp (thn (ha.run pos pins s1 σ H1 _ I1 q) fun us s2 ⟨vs, H2, I2, r, q2⟩ => ⟨I2.kIn, ?_⟩) hst hpl)
  exact run_fnS (us := .ref a :: us) (vs := .ref a :: vs) F hr hb (hx σ) I2 (.cons rfl r) q2
end
/-! ## an error is made and raised: its dict d holds its one field -/
/-- X.__init__(self, v): the base's __init__, then self.f = v -/
def spErr (C : Addr) (f : Str) (ok : V → Prop) : Sp := fun vs H Q _ => ∃ (a : Addr) (v : V), vs = [.ref a, v] ∧ ok v ∧ H a = some (exo a C none) ∧
  ∀ dx, H dx = none → dx ≠ a → Q .non (upd (upd H dx (exd dx [(f, v)])) a (exo a C (some dx)))
def okInt (v : V) : Prop := ∃ i : Int, v = .int i ∧ i.natAbs.log2 < 1920
theorem err_make {C : Addr} {f : Str} {ok : V → Prop} {v : V} {H : Hp} {W : Value → Option Addr → Hp → Prop} {E : XK} (hv : ok v) (k : ∀ d, H d = none → W (.ref C) (some d) (upd H d (.xd [(f, v)]))) :
    [v].length ≤ 1000 ∧ ∀ a, H a = none → spErr C f ok (.ref a :: ([v] ++ [])) (upd H a (exo a C none))
      (fun u H2 => u = .non ∧ ∃ (d : Addr) (fs : List (Str × V)), H2 a = some (exo a C (some d)) ∧ H2 d = some (exd d fs) ∧ H d = none ∧ W (.ref C) (some d) (upd (del H2 a) d (.xd fs))) E := by
  refine ⟨by show 1 ≤ 1000; decide, fun a na => ⟨a, v, rfl, hv, upd_same, fun dx ndx ne => ⟨rfl, dx, [(f, v)], upd_same, ?_, ?_, ?_⟩⟩⟩
  · rw [upd_ne ne, upd_same]
  · rw [upd_ne ne] at ndx
    exact ndx
  · rw [upd_ne ne] at ndx
    have e : upd (del (upd (upd (upd H a (exo a C none)) dx (exd dx [(f, v)])) a (exo a C (some dx))) a) dx (.xd [(f, v)]) = upd H dx (.xd [(f, v)]) := by
      funext b
      by_cases hb : b = dx
      · subst hb
        rw [upd_same, upd_same]
      · rw [upd_ne hb, upd_ne hb]
        by_cases ha : b = a
        · subst ha
          rw [del_same, na]
        · rw [del_ne ha, upd_ne ha, upd_ne hb, upd_ne ha]
    rw [e]
    exact k dx ndx
end L2
namespace PySem.W
open PySem PySem.Spec PySem.Calls PyProof.Rows
section
variable {prog : Program} {w : World} {A : Around} {E : Value → Shared → Prop} {s : Shared} {K : Frag} {x D : Addr} {ox : Obj} {od : Option Obj}
/-- what the class of an error says of __class__ and of its own getter -/
structure ErrK (K : Frag) (D : Addr) : Prop where
  ga : findIn K (.ref D) "__getattribute__" = some (some (.builtin "BaseException.__getattribute__"))
  gg : findIn K (.ref D) "__getattr__" = some none
  sb : subIn K (.ref D) (.type "BaseException") = some true
  hd : hasDictIn K D = true
  cl : findIn K (.ref D) "__class__" = some (some (.builtin "object.__class__"))
  gt : specialIn K (.builtin "object.__class__") "__get__" = some (some (.builtin "getset_descriptor.__get__"))
  tk : takesIn K (.builtin "object.__class__") = some true
  mr : mroIn K D (.type "object") = some true
/-- e.__class__ of an error, with a dict of its own or without -/
theorem err_cls {Q : Option Value → Shared → Prop} (Z : ErrK K D) (X : K.In s.heap) (I : InstAt s.heap x ox D od) (h : Q (some (.ref D)) { s with toks := s.toks + 1 }) : wpAny (model prog w) A (getAttr? (.ref x) "__class__") Q E s := by
  have found : findObj K D od "__class__" = some (.bind (.builtin "getset_descriptor.__get__") (.builtin "object.__class__")) := by
    obtain ⟨cd, hc, _⟩ := any_some Z.hd
    unfold findObj
    rw [hc, Option.bind_some, Z.cl, Option.bind_some]
    simp [Z.gt, Z.tk]
  rcases s with ⟨hp, gs, dr, tk, os⟩
  have la := I.type (M := model prog w); have lb := looks_findIn (M := model prog w) X Z.ga; have lc := looks_findIn (M := model prog w) X Z.gg; have ld := looks_find (M := model prog w) X I found
  have isB : Looks (model prog w) hp (isInstance (.ref x) (.type "BaseException")) true := la.andThen (looks_subIn X Z.sb)
  have n2 : (Value.builtin "BaseException.__getattribute__" == Value.builtin "object.__getattribute__") = false := by decide +kernel
  have n1 : (onTheHeap (Value.ref D) && Value.builtin "BaseException.__getattribute__" == Value.builtin "object.__getattribute__") = false := by rw [n2, Bool.and_false]
  unfold getAttr? getAttrBy? getAttrBy
  refine wpAny_bind (wpAny_mkText (wpAny_bind (wpAny_attempt (wpAny_holding (wpAny_bind (la.at (wpAny_bind (lb.at (?_ : wpAny _ _ (if (onTheHeap (Value.ref D) && Value.builtin "BaseException.__getattribute__" == Value.builtin "object.__getattribute__") = true then _ else _) _ _ _)))))))))
  rw [n1, if_neg Bool.false_ne_true]
  unfold getAttrByItsOwn hookBefore
  refine wpAny_bind (?_ : wpAny _ _ (if onTheHeap (Value.ref D) = true then _ else _) _ _ _)
  have oh : onTheHeap (Value.ref D) = true := rfl
  rw [if_pos oh]
  refine lc.at (wpAny_bind (wpAny_attempt (wpAny_holding ?_)))
  unfold callGetattribute
  rw [show (false && onTheHeap (Value.builtin "BaseException.__getattribute__")) = false from rfl, if_neg Bool.false_ne_true]
  unfold boundAndCalled
  rw [PySem.F.excAttr_ValueError.ga.bind (.ref x)]
  refine wpAny_bind (wpAny_pure (?_ : wpAny _ _ (call (.builtin "BaseException.__getattribute__") [.ref x, .str "__class__" tk]) _ _ _))
  refine wpAny_call (codeAny_call_builtin PySem.F.excAttr_ValueError.ga.plain PySem.F.entry_bexc_ga (@check_slot (model prog w) _ _ ⟨hp, gs, dr, tk + 1, os⟩ "BaseException.__getattribute__" "BaseException" "__getattribute__" (.ref x) [.str "__class__" tk] [] _ (by decide +kernel) (by decide +kernel) isB (PySem.F.args_bexc_ga (.ref x) (.str "__class__" tk)) ?_))
  unfold Builtin.«object.__getattribute__»
  refine wpAny_bind (wpAny_of_eq (a := ((Value.ref x : Value), [Value.str "__class__" tk])) (by first | rfl | (simp only [slotArgs]; rfl)) (wpAny_bind (wpAny_pure (wpAny_bind (la.at (wpAny_bind (ld.at ?_)))))))
  refine (?_ : wpAny _ _ (holding [Value.builtin "object.__class__"] (call (.builtin "getset_descriptor.__get__") [.builtin "object.__class__", .ref x, .ref D]) >>= ret) _ _ _)
  refine wpAny_bind (wpAny_holding (wpAny_call (class_get (s := ⟨hp, gs, dr, tk + 1, os⟩) (ox := ox) (od := od) X I Z.mr (wpAny_pure (?_ : wpAny _ _ (handedOut (.ref D)) _ _ _)))))
  rw [handedOut_of (v := .ref D) rfl]
  first
    | exact wpAny_pure (wpAny_pure h)
    | exact wpAny_pure h
    | exact wpAny_pure (wpAny_bind (wpAny_pure (wpAny_pure h)))
theorem err_kit (Z : ErrK K D) : KitX K (.ref x) (.ref D) (fun h => ∃ ox od, InstAt h x ox D od) := by
  have own : ∃ c' d' cd' sl', K.lookup D = some ⟨c', d', .cls cd', sl'⟩ := by
    obtain ⟨cd, hc, _⟩ := any_some Z.hd
    unfold clsIn at hc
    split at hc
    · rename_i c' d' cd' sl' ho
      exact ⟨_, _, _, _, ho⟩
    · cases hc
  obtain ⟨c', d', cd', sl', ho⟩ := own
  refine ⟨fun _ _ _ ⟨_, _, I⟩ => I.type, fun _ _ X _ A' Q' E' s' k q => ?_, fun h tp dd its n sl X htp => Bool.eq_false_iff.mpr fun q => ?_, fun X ⟨_, _, I⟩ k => err_cls Z X I k⟩
  · unfold isType loadHead
    exact wpAny_bind (wpAny_loadPart (k _ _ (X _ _ ho)) (wpAny_pure q))
  · have e : D = tp := Value.ref.inj (beq_iff_eq.mp q)
    subst e
    have z := (X _ _ ho).symm.trans htp
    cases z
end
end PySem.W
namespace L2
open PySem PySem.Spec PyProof.Rows
/-- isinstance(e, c), e the error that the suite holds, with a dict of its own at d -/
def rIsD (K : PySem.W.Frag) (cls : Value) (d : Option Addr) (a : Addr) : List V → Hp → VK → Prop := fun xs H Q => ∃ (D dd : Addr) (fs : List (Str × V)) (c : V) (cv : Value) (b : Bool), cls = .ref D ∧ d = some dd ∧ H dd = some (.xd fs) ∧ PySem.W.ErrK K D ∧ xs = [.ref a, c] ∧ ClsV c cv ∧ PySem.W.kitOne K (.ref D) cv = some b ∧ Q (.bl b) H
theorem call_isD {X : Cx} {a : Addr} {oe : Obj} {cls : Value} {d : Option Addr} {pn : List (Addr × Obj)} (hz : Zc cls d oe) (hf : ∃ vs, oe.data = .fields vs) : CallR (X.suite a ((a, oe) :: pn)) (.builtin "isinstance") (rIsD X.K cls d a) := by
  intro pins s σ H xs us Q I r h
  obtain ⟨D, dd, fs, c, cv, b, rfl, rfl, hdd, Z, rfl, hc, e, q⟩ := h
  cases r with
  | cons rx rr =>
    cases rr with
    | cons rt rr =>
      cases rr
      cases rx
      obtain rfl := hc.eq rt
      obtain ⟨hget, _⟩ := I.pin (a, oe) (List.mem_append.mpr (.inl List.mem_cons_self))
      obtain ⟨vs, hv⟩ := hf
      have hx : ObjOk X.prog X.w H s.heap dd (.xd fs) := I.hok dd _ hdd
      obtain ⟨mA, hns, _⟩ := hx
      obtain ⟨od, ho, _⟩ := lookIn_ns hns
      have J : PySem.W.InstAt s.heap a oe D (some od) := ⟨hget, hz.1, by unfold PySem.W.notCls; rw [hv] <;> rfl, by rw [hz.2]; exact ho⟩
      exact PySem.W.kia_one (PySem.W.err_kit Z) I.kIn ⟨oe, some od, J⟩ e (fun z => nomatch z) fun tk => ⟨.bl b, H, I.kept (t' := tk) fun _ _ z => z, rfl, q⟩
end L2

namespace L2
open PySem PySem.Spec PyProof.Rows
/-! ## how long the words of an error are -/
theorem len_nat {n k : Nat} (hk : 0 < k) (h : n < 10 ^ k) : (Nat.repr n).toList.length ≤ k := by
  unfold Nat.repr
  rw [String.toList_ofList]
  exact (Nat.length_toDigits_le_iff (by decide) hk).mpr h
theorem len_toString {i : Int} {k : Nat} (hk : 0 < k) (h : i.natAbs < 10 ^ k) : (toString i).toList.length ≤ k + 1 := by
  show (Int.repr i).toList.length ≤ k + 1
  unfold Int.repr
  cases i with
  | ofNat m => exact Nat.le_succ_of_le (len_nat hk h)
  | negSucc m =>
    show ("-" ++ Nat.repr (m + 1)).toList.length ≤ k + 1
    rw [String.toList_append, List.length_append]
    have := len_nat hk (show m + 1 < 10 ^ k from h)
    show 1 + _ ≤ _
    omega
theorem len_app (a b : PySem.Str) : (a ++ b).length = a.length + b.length := by
  have e1 : (a ++ b).cps.toList.length = (a ++ b).length := Array.length_toList
  have e2 : a.cps.toList.length = a.length := Array.length_toList
  have e3 : b.cps.toList.length = b.length := Array.length_toList
  rw [PySem.W.KT.app_list, List.length_append, e2, e3] at e1
  exact e1.symm
/-- a number that an error may carry -/
def Bd (i : Int) : Prop := i.natAbs < 2 ^ 400
theorem Bd.log {i : Int} (h : Bd i) : i.natAbs.log2 < 1920 := by
  by_cases h0 : i.natAbs = 0
  · rw [h0]; decide
  · exact (Nat.log2_lt h0).mpr (Nat.lt_of_lt_of_le h (Nat.pow_le_pow_right (by decide) (by decide)))
theorem Bd.len {i : Int} (h : Bd i) : (PySem.Str.ofString (toString i)).length ≤ 200 := by
  rw [PySem.ofString_length]
  exact Nat.le_trans (len_toString (k := 150) (by decide) (Nat.lt_of_lt_of_le h (by decide +kernel))) (by decide)
def okB (v : V) : Prop := ∃ i : Int, v = .int i ∧ Bd i
/-! ## a pupil made of questions of which some may be none -/
def firstBad (l : List Int) : Option Int := l.find? fun k => !decide (0 ≤ k ∧ k < 48)
theorem first_of : ∀ {l : List Int} {i : Nat} {z : Int}, l[i]? = some z → (∀ y ∈ l.take i, 0 ≤ y ∧ y < 48) → ¬ (0 ≤ z ∧ z < 48) → firstBad l = some z
  | [], i, z, h, _, _ => by simp at h
  | y :: r, 0, z, h, _, hz => by
    have e : y = z := Option.some.inj h
    subst e
    unfold firstBad
    rw [List.find?_cons, decide_eq_false hz]
    rfl
  | y :: r, i + 1, z, h, hp, hz => by
    have hy := hp y (by rw [List.take_succ_cons]; exact List.mem_cons_self)
    have := first_of (l := r) (i := i) (z := z) h (fun u hu => hp u (by rw [List.take_succ_cons]; exact List.mem_cons_of_mem _ hu)) hz
    unfold firstBad at this ⊢
    rw [List.find?_cons, decide_eq_true hy]
    exact this
theorem first_none {l : List Int} (h : Qn l) : firstBad l = none := by
  unfold firstBad
  rw [List.find?_eq_none]
  intro x hx
  rw [decide_eq_true (h x hx)]
  decide
def spInitX (K : PySem.W.Frag) (C CB : Addr) : Sp := fun vs H Q E => ∃ (x dx q : Addr) (l : List Int), vs = [.ref x, .ref q] ∧ H x = some (.ins C dx []) ∧ SqA K H q (l.map V.int) ∧ l.length ≤ 500 ∧ (∀ z ∈ l, Bd z) ∧
  (Qn l → ∀ H' t, H' x = some (.ins C dx [("rights", .ref t)]) → H' t = some (.tup ((norm l).map V.int)) → (∀ b o, b ≠ x → H b = some o → H' b = some o) → Q .non H') ∧
  ∀ z, firstBad l = some z → ∀ d H', H d = none → Same H H' → H' d = some (.xd [("number", .int z)]) → E (.ref CB) (some d) H'
theorem pupX_make {K : PySem.W.Frag} {C CB q : Addr} {H : Hp} {l : List Int} {R : Addr → Hp → Prop} {E : XK} (hq : SqA K H q (l.map V.int)) (hl : l.length ≤ 500) (hb : ∀ z ∈ l, Bd z) (k : Qn l → ∀ x H', H x = none → Same H H' → PupAt C H' x l → R x H')
    (kx : ∀ z, firstBad l = some z → ∀ d H', H d = none → Same H H' → H' d = some (.xd [("number", .int z)]) → E (.ref CB) (some d) H') :
    ∀ x dx, H x = none → H dx = none → dx ≠ x → spInitX K C CB [.ref x, .ref q] (upd (upd H dx (.own x)) x (.ins C dx [])) (fun v H2 => v = .non ∧ R x H2) E := by
  intro x dx nx ndx ne
  have s0 : Same H (upd (upd H dx (.own x)) x (.ins C dx [])) := (same_upd ndx).mut nx
  refine ⟨x, dx, q, l, rfl, upd_same, hq.same s0, hl, hb, fun hn H' t h1 h2 h3 => ⟨rfl, k hn x H' nx (fun b o e => ?_) ⟨dx, t, h1, h2⟩⟩, fun z hz d H' nd e h => kx z hz d H' (s0.free nd) (s0.trans e) h⟩
  exact h3 b o (ne_of_none e nx) (s0 b o e)
/-- where all are questions nothing is raised -/
theorem pupX_good {K : PySem.W.Frag} {C CB q : Addr} {H : Hp} {l : List Int} {R : Addr → Hp → Prop} {E : XK} (hq : SqA K H q (l.map V.int)) (hl : l.length ≤ 500) (hn : Qn l) (k : ∀ x H', H x = none → Same H H' → PupAt C H' x l → R x H') :
    ∀ x dx, H x = none → H dx = none → dx ≠ x → spInitX K C CB [.ref x, .ref q] (upd (upd H dx (.own x)) x (.ins C dx [])) (fun v H2 => v = .non ∧ R x H2) E :=
  pupX_make hq hl (fun z hz => by have := hn z hz; unfold Bd; have : z.natAbs < 48 := by omega
                                  exact Nat.lt_trans this (by decide +kernel)) (fun _ => k) fun z hz => by rw [first_none hn] at hz; cases hz
def spAddedX (C CB : Addr) : Sp := fun vs H Q E => ∃ (a : Addr) (p : List Int) (z : Int), vs = [.ref a, .int z] ∧ PupAt C H a p ∧ Bd z ∧
  ((0 ≤ z ∧ z < 48) → ∀ x H', H x = none → Same H H' → PupAt C H' x (p ++ [z]) → Q (.ref x) H') ∧
  (¬ (0 ≤ z ∧ z < 48) → ∀ d H', H d = none → Same H H' → H' d = some (.xd [("number", .int z)]) → E (.ref CB) (some d) H')
theorem Bd.small {z : Int} (h0 : -1000 ≤ z) (h1 : z < 1000) : Bd z := by
  unfold Bd
  have : z.natAbs < 1001 := by omega
  exact Nat.lt_trans this (by decide +kernel)
theorem kit_sub {K : PySem.W.Frag} {C B : Addr} (h : PySem.W.subIn K (.ref C) (.ref B) = some true) (h2 : PySem.W.isClsIn K B = true) (h3 : PySem.W.typeIn K (.ref B) = some (.type "type")) : PySem.W.kitOne K (.ref C) (.ref B) = some true := by
  unfold PySem.W.kitOne
  split
  · rfl
  · show (if ((PySem.W.clsIn K B).isSome && PySem.W.typeIn K (.ref B) == some (.type "type")) = true then PySem.W.subIn K (.ref C) (.ref B) else none) = some true
    rw [show (PySem.W.clsIn K B).isSome = true from h2, h3, h]
    rfl
end L2

namespace L2
open PySem PySem.Spec PyProof.Rows
/-! ## an object of an own class made by C(e, .., k=v) -/
section
variable {X : Cx} {CX : CXT} {k n : Nat} {f C : Addr} {fd : FuncData} {ps ks : List Str} {sp : Sp} {E : St → XK} {x : Str} {p pos : Pos} {e : Expr} {es : List Expr} {kws : List Keyword} {t tk : TA} {g : List Value → List Value → List Value} {gV : List V → List V → List V}
def tMakeN (C : Addr) (n m : Nat) (sp : Sp) (gV : List V → List V → List V) (E : St → XK) (t tk : TA) : TE := fun σ H Q => t σ H fun vs H1 => tk σ H1 fun zs H2 => vs.length + 1 = n ∧ zs.length = m ∧ ∀ x dx, H2 x = none → H2 dx = none → dx ≠ x →
  sp (gV (.ref x :: vs) zs) (upd (upd H2 dx (.own x)) x (.ins C dx [])) (fun v H3 => v = .non ∧ Q (.ref x) H3) (E σ)
theorem run_makeN {pins : List (Addr × Obj)} {σ : St} {H : Hp} {s : Shared} {Q : VK} {us ws : List Value} {vs zs : List V} (M : Mk X.K C f) (F : FnOk X.prog X.w X.K X.mg X.base CX k f fd ps sp) (hr : Room (k + 1) X.A) (hb : KBn X.K fd ps n ks g gV)
    (hx : PassesAt CX X σ (E σ)) (I : Inv X pins σ H s) (r : Vals vs us) (rz : Vals zs ws) (hn : vs.length + 1 = n) (hz : zs.length = ks.length)
    (h : ∀ x dx, H x = none → H dx = none → dx ≠ x → sp (gV (.ref x :: vs) zs) (upd (upd H dx (.own x)) x (.ins C dx [])) (fun v H2 => v = .non ∧ Q (.ref x) H2) (E σ)) : wpAny (model X.prog X.w) X.A (call (.ref C) us (ks.zip ws)) (EP X pins σ Q) X.xe s := by
  let n0 := s.heap.objs.size
  have want := h (n0 + 1) n0 (I.hok.fresh (Nat.le_succ n0)) (I.hok.fresh (Nat.le_refl n0)) (Nat.ne_of_lt (Nat.lt_succ_self n0))
  have J := Inv.made (C := C) I
  have rr : Vals (V.ref (n0 + 1) :: vs) (Value.ref (n0 + 1) :: us) := Paired.cons rfl r
  have bnd := hb.to _ (Value.ref (n0 + 1) :: us) ws J.kIn (by rw [← rr.length]; exact hn) (by rw [← rz.length]; exact hz)
  have body := F.run _ X.stack _ _ ⟨Value.ref (n0 + 1) :: us, ks.zip ws⟩ (g (Value.ref (n0 + 1) :: us) ws) _ _ (E σ) (hr.make C us (ks.zip ws)) (J.env0.make C us (ks.zip ws)) bnd (hb.rel rr rz) want
  refine wpAny_call (make_map (f := f) I.kIn M.makes M.init (beq_iff_eq.mp M.fn) (codeAny_mono body fun res s' hq => ?_))
  match res, hq with
  | .error er, hq => exact hx pins _ _ er s' J hq
  | .ok (.ret u), hq =>
    obtain ⟨v, H', I3, rv, ev, q3⟩ := J.after hq
    subst ev
    exact ⟨rv, V.ref (n0 + 1), H', I3, rfl, q3⟩
  | .ok .next, hq => exact hq.elim
  | .ok .brk, hq => exact hq.elim
  | .ok .cont, hq => exact hq.elim
theorem pe_makeN (M : Mk X.K C f) (F : FnOk X.prog X.w X.K X.mg X.base CX k f fd ps sp) (hr : Room (k + 1) X.A) (hg : Gl X x) (hm : X.mg x = some (.ref C)) (hb : KBn X.K fd ps n ks g gV) (hx : ∀ σ, PassesAt CX X σ (E σ))
    (ha : PA X (e :: es) t) (hk : PK X kws tk) (h1 : ((backToKw pos (keywordEach kws X.env)).all fun x => x.fst.isSome) = true := by rfl) (h2 : List.filterMap (fun x => x.fst) (backToKw pos (keywordEach kws X.env)) = ks := by rfl)
    (hdb : (x == ("__debug__" : Str)) = false := by decide) (he : starEach (e :: es) X.env = (false, eval e X.env) :: starEach es X.env := by rfl)
    (hpl : ((((backTo pos (starEach (e :: es) X.env)).any fun x => x.fst) || (backToKw pos (keywordEach kws X.env)).any fun x => x.fst.isNone) = false) := by rfl) :
    PE X (.Call (.Name x p) (e :: es) kws pos) (tMakeN C n ks.length sp gV E t tk) := by
  refine ⟨fun pins s σ H Q I h => wpAny_Call_Name_kw (ld_glob I hg hm ?_ hdb)⟩
  refine PySem.W.callWith_KW (h₀ := X.base) I.ok.mod.kin M.kp h1 (thn (ha.run pos pins s σ H _ I h) fun us s1 hh => ?_) hpl he
  obtain ⟨vs, H1, I1, r, hq⟩ := hh
  refine thn (hk.run pos pins s1 σ H1 _ I1 hq) fun ws s2 hh => ?_
  obtain ⟨zs, H2, I2, rz, hn, hz, q⟩ := hh
  refine ⟨I2.kIn, ?_⟩
  rw [h2]
  exact run_makeN M F hr hb (hx σ) I2 r rz hn hz q
end
end L2

namespace PySem
open PySem PySem.Spec PyProof.Rows L2
theorem wp_ite {α : Type} {M : Model} {A : Around} {E : Value → Shared → Prop} {s : Shared} {Q : α → Shared → Prop} {c : Bool} {t u : Sem α} (h1 : wpAny M A t Q E s) (h2 : wpAny M A u Q E s) : wpAny M A (if c = true then t else u) Q E s := by
  cases c
  · rw [if_neg (by decide)]; exact h2
  · rw [if_pos rfl]; exact h1
theorem enumT_new (l : Addr) (items : Array Value) :
  Meets (Builtin.«enumerate.__new__» ⟨[.type "enumerate", .ref l], []⟩) fun A R s =>
    s.heap.IsTuple l items ∧ R (.ok (.ret (.ref (s.heap.push { cls := .type "tuple_iterator", data := .fields #[.ref l, .int 0 0] }).objs.size)))
      { s with heap := (s.heap.push { cls := .type "tuple_iterator", data := .fields #[.ref l, .int 0 0] }).push { cls := .type "enumerate", data := .fields #[.none, .bool false, .ref s.heap.objs.size, rawInt 0, .none, .none] } } := by
  intro prog w A R s ⟨ht, hR⟩
  have rest : ∀ b : Bool, wpAny (model prog w) A.in1 (pyIter (.ref l) >>= fun it => Builtin.SmallTypes.newRecord (.type "enumerate") (Builtin.SmallTypes.ownedTupleFields ++ [it, rawInt 0, .none, .none]) >>= fun r => ret r)
      (fun fin s' => match fin with
        | Fin.done f => R (.ok f) s'
        | Fin.again c' => Code.quiet c' = true ∧ codeAny (model prog w) A c' R s') (fun e s' => R (.error e) s') s := fun _ => by
    refine wpAny_bind (wpAny_pyIter_tuple ht (wpAny_bind ?_))
    unfold Builtin.SmallTypes.newRecord newObj
    show wpAny _ _ (if _ then _ else _) _ _ _
    rw [if_neg (by show ¬ (6 > sizeLine + 2); decide)]
    unfold newObjAsIs
    refine wpAny_bind (wpAny_alloc (wpAny_pure ?_))
    exact wpAny_pure hR
  unfold Builtin.«enumerate.__new__» Builtin.SmallTypes.newClass
  refine wpAny_bind (wpAny_of_eq (a := (Value.type "enumerate", [Value.ref l])) ?_ ?_)
  · show (isSubtype (.type "enumerate") (.type "enumerate") >>= fun b => _) = _
    rw [sub_enumerate]
    rfl
  · show wpAny _ _ (if (Value.type "enumerate" == Value.type "enumerate") = true then _ else _) _ _ _
    rw [if_pos (beq_self_eq_true _)]
    unfold Builtin.SmallTypes.calledThroughType
    refine wpAny_bind (wpAny_bind (wpAny_stack fun st _ _ _ => wpAny_pure ?_))
    refine wp_ite ?_ ?_
    · refine wpAny_bind (wpAny_of_eq (a := (Value.ref l, none)) rfl ?_)
      exact rest true
    · refine wpAny_bind (wpAny_of_eq (a := (Value.ref l, none)) rfl ?_)
      exact rest true
theorem Draws.tuple {prog : Program} {w : World} {A : Around} (hA : A.handled = none) (it l : Addr) (ne : l ≠ it) (items : Array Value) :
    PySem.Draws prog w A it [it, l] items.size (fun i v => items[i]? = some v) fun i h => h.IsTupleIter it l i ∧ h.IsTuple l items := by
  refine ⟨fun i h ⟨⟨o, ho, _⟩, _⟩ => ⟨o, ho⟩, fun i h h' ⟨a, b⟩ k => ⟨a.at (k it (by simp)), b.at (k l (by simp))⟩, fun i s Q E hi ⟨a, b⟩ k => ?_, fun s Q E ⟨a, b⟩ k => ?_⟩
  · refine RZ.nextOf_tuple_item a b (Array.getElem?_eq_getElem hi) fun h' a' sb => ?_
    exact k _ h' s.toks (Array.getElem?_eq_getElem hi) ⟨a', b.at fun o ho => by rw [sb.2 l ne]; exact ho⟩ sb
  · exact RZ.nextOf_tuple_end hA a b (by simp) fun h' e x y => k h' e x y
theorem call_enumT {prog : Program} {w : World} {A : Around} {E : Value → Shared → Prop} {s : Shared} {l : Addr} {items : Array Value} {Q : Value → Shared → Prop} (ht : s.heap.IsTuple l items)
    (h : ∀ h' : Heap, IsEnum h' (s.heap.objs.size + 1) s.heap.objs.size 0 .none → h'.IsTupleIter s.heap.objs.size l 0 → h'.objs.size = s.heap.objs.size + 2 → (∀ b o, s.heap.get? b = some o → h'.get? b = some o) → Q (.ref (s.heap.objs.size + 1)) { s with heap := h' }) :
    wpAny (model prog w) A (call (.type "enumerate") [.ref l]) Q E s := by
  have e1 : (s.heap.push { cls := .type "tuple_iterator", data := .fields #[.ref l, .int 0 0] }).objs.size = s.heap.objs.size + 1 := by rw [Heap.size_push]
  have keep : ∀ b o, s.heap.get? b = some o → ((s.heap.push { cls := .type "tuple_iterator", data := .fields #[.ref l, .int 0 0] }).push { cls := .type "enumerate", data := .fields #[.none, .bool false, .ref s.heap.objs.size, rawInt 0, .none, .none] }).get? b = some o := fun b o e => Heap.get?_push_of_some _ (Heap.get?_push_of_some _ e)
  have g1 : ((s.heap.push { cls := .type "tuple_iterator", data := .fields #[.ref l, .int 0 0] }).push { cls := .type "enumerate", data := .fields #[.none, .bool false, .ref s.heap.objs.size, rawInt 0, .none, .none] }).get? (s.heap.objs.size + 1) = some { cls := .type "enumerate", data := .fields #[.none, .bool false, .ref s.heap.objs.size, rawInt 0, .none, .none] } := by heap_get
  have g0 : ((s.heap.push { cls := .type "tuple_iterator", data := .fields #[.ref l, .int 0 0] }).push { cls := .type "enumerate", data := .fields #[.none, .bool false, .ref s.heap.objs.size, rawInt 0, .none, .none] }).get? s.heap.objs.size = some { cls := .type "tuple_iterator", data := .fields #[.ref l, .int 0 0] } := by heap_get
  refine callType_new F.called_enumerate (by decide) (F.typeCall_enumerate_1 _) (F.newCall_enumerate_1 _) ?_ F.entry_enumerate_new (enumT_new l items) ?_
  · intro obj
    exact F.args_object_init_1 obj
  · refine ⟨ht, ?_⟩
    show _ ∧ _
    refine ⟨?_, ?_⟩
    · rw [e1]
      exact ⟨_, g1, rfl⟩
    · rw [e1]
      exact h _ g1 ⟨_, g0, rfl, rfl⟩ (by rw [Heap.size_push, e1]) keep
end PySem
namespace L2
open PySem PySem.Spec PyProof.Rows
/-- enumerate over a tuple -/
def IteT (K : PySem.W.Frag) (a : Addr) : It :=
  ⟨fun i H => ∃ xs x, SqT K H a xs ∧ xs[i]? = some x, fun i H v H' => ∃ T x, v = .ref T ∧ H T = none ∧ H' = upd H T (.tup [.int (i : Nat), x]) ∧ ∀ xs, SqT K H a xs → xs[i]? = some x, fun i H => ∃ xs, SqT K H a xs ∧ xs.length = i⟩
def iEnumT (K : PySem.W.Frag) (ta : TA) : TI := fun σ H R => ta σ H fun vs H1 => ∃ a xs, vs = [.ref a] ∧ SqT K H1 a xs ∧ R (IteT K a) H1
theorem turn_enumT {P : Program} {w : World} {K : PySem.W.Frag} {elts : List Expr} {kk : Nat} {tpos : Pos} (a e it : Addr) :
    Turn P w K (.Tuple elts kk tpos) (IteT K a) [e, it] e fun i h => (∃ old, IsEnum h e it (i : Nat) old) ∧ h.IsTupleIter it a i ∧ e ≠ it := by
  refine ⟨by simp, fun i h ⟨⟨old, z⟩, ⟨o, ho, _, hd⟩, _⟩ b hb => ?_, fun i h h' ⟨⟨old, z⟩, y, ne⟩ k => ⟨⟨old, k e (by simp) _ z⟩, y.at (k it (by simp)), ne⟩, fun X hP hw hK hc i pins s σ H E I fp ⟨⟨old, z⟩, y, ne⟩ go => ?_, fun X hP hw hK hc i pins s σ H E I fp ⟨⟨old, z⟩, y, ne⟩ st => ?_, fun A i s Q E ⟨⟨old, z⟩, y, ne⟩ q => wpAny_pyIter_enum z q⟩
  · rcases List.mem_cons.mp hb with e1 | hb
    · subst e1
      exact ⟨_, z, fun v h => by cases h⟩
    · obtain rfl := List.mem_singleton.mp hb
      exact ⟨o, ho, fun v h => by rw [hd] at h; cases h⟩
  · subst hP hw hK
    obtain ⟨xs, x, hs, hx⟩ := go
    obtain ⟨its, hv, ht, hlen⟩ := I.tuple hs
    have hl := hv.length
    have hi : i < its.toArray.size := by
      have := (List.getElem?_eq_some_iff.mp hx).1
      rw [List.size_toArray]
      omega
    have ha : a ≠ it := fun q => by
      subst q
      obtain ⟨o, ho, hc, _⟩ := y
      obtain ⟨o', ho', hc', _⟩ := ht
      rw [ho] at ho'
      obtain rfl := Option.some.inj ho'
      rw [hc] at hc'
      exact absurd hc' (by decide)
    refine wpAny_pyNext_enum_itemD (Draws.tuple (A := X.A.in1) (I.ok.hd hc) it a ha its.toArray) z ⟨y, ht⟩ hi ne (by
      intro q
      rcases List.mem_cons.mp q with q | q
      · exact ne q
      · have q := List.mem_singleton.mp q
        subst q
        obtain ⟨o', ho', hc', _⟩ := ht
        rw [z] at ho'
        obtain rfl := Option.some.inj ho'
        exact absurd hc' (by show ¬ (Value.type "enumerate" = Value.type "tuple"); decide)) fun x' h' tk hx' out st' tup sz kp => ?_
    obtain ⟨u, hu, ru⟩ : ∃ u, its[i]? = some u ∧ RelV x u := paired_get hv hx
    have ex : x' = u := by
      rw [List.getElem?_toArray, hu] at hx'
      exact (Option.some.inj hx').symm
    subst ex
    have hT : H s.heap.objs.size = none := I.hok.fresh (Nat.le_refl _)
    refine ⟨_, rfl, wpAny_letOwnedTupleGo_enum out fun h2 z2 sb => ?_⟩
    have eT : s.heap.objs.size ≠ e := fun q => Nat.lt_irrefl _ (q ▸ Heap.lt_size z)
    have tup2 : h2.get? s.heap.objs.size = some { cls := .type "tuple", data := .seq #[.int (i : Nat) tk, x'] } := by rw [sb.2 _ eT]; exact tup
    have y2 : h2.IsTupleIter it a (i + 1) := st'.1.at fun o ho => by rw [sb.2 it (Ne.symm ne)]; exact ho
    refine ⟨.ref s.heap.objs.size, upd H s.heap.objs.size (.tup [.int (i : Nat), x]), ?_, rfl, ⟨_, x, rfl, hT, rfl, fun ys hy => by rw [I.tuple_inj hy hs]; exact hx⟩, ⟨⟨x', z2⟩, y2, ne⟩, fun b hb => ?_⟩
    · refine Inv.turnedNew (s := s) (ch := [e, it]) I (fun b o nb hb => ?_) fp (Nat.le_refl _) ⟨by show 2 ≤ sizeLine; decide, [.int (i : Nat) tk, x'], .cons ⟨tk, rfl⟩ (.cons ru .nil), ⟨_, tup2, rfl, _, rfl⟩⟩
      have n1 : b ≠ e := fun q => nb (by rw [q]; simp)
      have n2 : b ≠ it := fun q => nb (by rw [q]; simp)
      rw [sb.2 b n1]
      exact kp b o n1 n2 hb
    · have nb : b ≠ s.heap.objs.size := by
        rcases List.mem_cons.mp hb with q | q
        · rw [q]; exact Ne.symm eT
        · rw [List.mem_singleton.mp q]
          obtain ⟨o, ho, _⟩ := y
          exact fun q => Nat.lt_irrefl _ (q ▸ Heap.lt_size ho)
      rw [upd_ne nb]
      exact (fp b hb).1
  · subst hP hw hK
    obtain ⟨xs, hs, hl⟩ := st
    obtain ⟨its, hv, ht, hlen⟩ := I.tuple hs
    have hl2 := hv.length
    have ha : a ≠ it := fun q => by
      subst q
      obtain ⟨o, ho, hc, _⟩ := y
      obtain ⟨o', ho', hc', _⟩ := ht
      rw [ho] at ho'
      obtain rfl := Option.some.inj ho'
      rw [hc] at hc'
      exact absurd hc' (by decide)
    have en : its.toArray.size = i := by rw [List.size_toArray]; omega
    refine wpAny_pyNext_enum_endD (Draws.tuple (A := X.A.in1) (I.ok.hd hc) it a ha its.toArray) z (by rw [en]; exact ⟨y, ht⟩) fun h' eb => ⟨rfl, ?_⟩
    have f := fp it (by simp)
    exact I.turned (fun b o nb hb => eb b o nb hb) f.1 f.2.1 f.2.2.2.1 f.2.2.2.2.1 f.2.2.2.2.2
theorem pi_enumT {X : Cx} {e : Expr} {ta : TA} {p pos tpos : Pos} {elts : List Expr} {kk : Nat} (hg : Gl X "enumerate") (hm : X.mg "enumerate" = none) (ha : PA X [e] ta) (he : starEach [e] X.env = [(false, eval e X.env)] := by rfl) :
    PI X (.Tuple elts kk tpos) (.Call (.Name "enumerate" p) [e] [] pos) (iEnumT X.K ta) := by
  refine ⟨fun pins s σ H R I h => ?_⟩
  refine wpAny_Call_Name_kw (ld_blt I hg hm (u := .type "enumerate") (by decide +kernel) ?_ (by decide) (by decide))
  refine PyProof.Rows.callWith_type1 (thn (ha.run pos pins s σ H _ I h) fun us s1 hh => ?_) he rfl
  obtain ⟨vs, H1, I1, r, a, xs, ev, hs, hR⟩ := hh
  subst ev
  cases r with
  | cons ra rr =>
    cases rr
    cases ra
    obtain ⟨its, hv, ht, hlen⟩ := I1.tuple hs
    refine call_enumT ht fun h' z y sz keep => wpAny_pyIter_enum z ?_
    have n1 : s1.heap.objs.size + 1 ≠ s1.heap.objs.size := Nat.succ_ne_self _
    refine ⟨s1.heap.objs.size + 1, [s1.heap.objs.size + 1, s1.heap.objs.size], _, IteT X.K a, H1, rfl, I1.kept keep, turn_enumT a (s1.heap.objs.size + 1) s1.heap.objs.size, ⟨⟨_, z⟩, y, n1⟩, fun b hb => ?_, hR⟩
    have hle : s1.heap.objs.size ≤ b := by
      rcases List.mem_cons.mp hb with q | q
      · rw [q]; exact Nat.le_succ _
      · rw [List.mem_singleton.mp q]; exact Nat.le_refl _
    exact I1.fpOk hle (I1.hok.fresh hle)
/-- a loop over enumerate(a tuple) -/
theorem for_enumT {K : PySem.W.Frag} {a : Addr} {xs : List V} {g : TG} {tb : TS} {D : Ends} {σ : St} {H : Hp} (Pv : Nat → St → Hp → Prop) (h0 : Pv 0 σ H) (hs : ∀ i σ H, i ≤ xs.length → Pv i σ H → SqT K H a xs)
    (st : ∀ i x σ H T, xs[i]? = some x → Pv i σ H → H T = none → g (.ref T) σ (upd H T (.tup [.int (i : Nat), x])) fun σ2 H2 => tb { nx := Pv (i + 1), rt := D.rt, bk := D.nx, ct := Pv (i + 1) } σ2 H2)
    (e : ∀ σ H, Pv xs.length σ H → D.nx σ H) :
    ∃ W : Nat → Nat → St → Hp → Prop, (∃ m, W 0 m σ H) ∧ ∀ i m σ H, W i m σ H → (IteT K a).stop i H ∧ D.nx σ H ∨ (IteT K a).go i H ∧ ∃ N : St → Hp → Prop, (∀ σ' H', N σ' H' → ∃ m', m' < m ∧ W (i + 1) m' σ' H') ∧
      ∀ x H', (IteT K a).yld i H x H' → g x σ H' fun σ2 H2 => tb { nx := N, rt := D.rt, bk := D.nx, ct := N } σ2 H2 := by
  refine ⟨fun i m σ H => Pv i σ H ∧ i + m = xs.length, ⟨xs.length, h0, Nat.zero_add _⟩, fun i m σ H ⟨hp, hm⟩ => ?_⟩
  have hS := hs i σ H (by omega) hp
  by_cases hi : i < xs.length
  · refine .inr ⟨⟨xs, xs[i], hS, List.getElem?_eq_getElem hi⟩, Pv (i + 1), fun σ' H' hp' => ⟨m - 1, by omega, hp', by omega⟩, fun v H' ⟨T, x, ev, hT, eH, hx⟩ => ?_⟩
    subst ev
    subst eH
    exact st i x σ H T (hx xs hS) hp hT
  · obtain rfl : i = xs.length := by omega
    exact .inl ⟨⟨xs, hS, rfl⟩, e σ H hp⟩
end L2

namespace L2
open PySem PySem.Spec PyProof.Rows
theorem passAt0 {CX : CXT} {X : Cx} {E : XK} (h : Passes CX X E) (σ : St) : PassesAt CX X σ E := fun pins H s e s' I q => h pins σ H s e s' I q
theorem vals_app {vs zs : List V} {us ws : List Value} (h1 : Vals vs us) (h2 : Vals zs ws) : Vals (vs ++ zs) (us ++ ws) := by
  induction h1 with
  | nil => exact h2
  | cons r _ ih => exact .cons r ih
/-! ## webs -/
/-- a row: a question and two or three targets -/
def RowOk (i n : Nat) (e : Int) (row : List Int) : Prop := ∃ q r, row = q :: r ∧ (r.length = 2 ∨ r.length = 3) ∧ 0 ≤ q ∧ q < 48 ∧ ∀ t ∈ r, -e ≤ t ∧ t < n ∧ ¬ (0 ≤ t ∧ t ≤ i)
/-- nothing is asked again behind a node: A i holds the questions that may be asked from node i on -/
def Cert (rows : List (List Int)) : Prop := ∃ A : Nat → Int → Prop, ∀ i q r, rows[i]? = some (q :: r) → A i q ∧ ∀ t ∈ r, 0 ≤ t → ¬ A t.toNat q ∧ ∀ z, A t.toNat z → A i z
structure GoodW (rows : List (List Int)) (e o : Int) : Prop where
  e1 : 1 ≤ e
  e2 : e ≤ 60
  len : rows.length ≤ 400
  row : ∀ i row, rows[i]? = some row → RowOk i rows.length e row
  o1 : -e ≤ o
  o2 : o < rows.length
  cert : Cert rows
/-- the rows stand as tuples at as -/
def RowsAt (H : Hp) (as : List Addr) (rows : List (List Int)) : Prop := as.length = rows.length ∧ ∀ (i : Nat) a row, as[i]? = some a → rows[i]? = some row → H a = some (.tup (row.map V.int))
theorem RowsAt.same {H H' : Hp} {as : List Addr} {rows : List (List Int)} (e : Same H H') (h : RowsAt H as rows) : RowsAt H' as rows := ⟨h.1, fun i a row x y => e _ _ (h.2 i a row x y)⟩
theorem RowsAt.gd {H H' : Hp} {as : List Addr} {rows : List (List Int)} (e : Gd H H') (h : RowsAt H as rows) : RowsAt H' as rows := ⟨h.1, fun i a row x y => e.1 _ _ (np_tup _) (h.2 i a row x y)⟩
def WebAt (C : Addr) (H : Hp) (x : Addr) (rows : List (List Int)) (e o : Int) : Prop := ∃ dx nt as, H x = some (.ins C dx [("nodes", .ref nt), ("ends", .int e), ("start", .int o)]) ∧ H nt = some (.tup (as.map V.ref)) ∧ RowsAt H as rows
theorem WebAt.same {C : Addr} {H H' : Hp} {x : Addr} {rows : List (List Int)} {e o : Int} (s : Same H H') (h : WebAt C H x rows e o) : WebAt C H' x rows e o := by
  obtain ⟨dx, nt, as, h1, h2, h3⟩ := h
  exact ⟨dx, nt, as, s _ _ h1, s _ _ h2, h3.same s⟩
theorem WebAt.gd {C : Addr} {H H' : Hp} {x : Addr} {rows : List (List Int)} {e o : Int} (s : Gd H H') (h : WebAt C H x rows e o) : WebAt C H' x rows e o := by
  obtain ⟨dx, nt, as, h1, h2, h3⟩ := h
  exact ⟨dx, nt, as, s.1 _ _ (np_ins _ _ _) h1, s.1 _ _ (np_tup _) h2, h3.gd s⟩
/-- the row at a place -/
theorem rows_get {H : Hp} {as : List Addr} {rows : List (List Int)} (h : RowsAt H as rows) {i : Nat} (hi : i < rows.length) : ∃ a row, as[i]? = some a ∧ rows[i]? = some row ∧ H a = some (.tup (row.map V.int)) := by
  have hi2 : i < as.length := by rw [h.1]; exact hi
  exact ⟨as[i], rows[i], List.getElem?_eq_getElem hi2, List.getElem?_eq_getElem hi, h.2 i _ _ (List.getElem?_eq_getElem hi2) (List.getElem?_eq_getElem hi)⟩
/-! masks -/
def natV (m : Nat) : V := .int (m : Int)
theorem and_bit {b q : Nat} (h : b.testBit q = false) : Builtin.bitAnd (b : Int) ((2 ^ q : Nat) : Int) = 0 := by
  rw [PyProof.Rows.bitAnd_pp (Int.natCast_nonneg _) (Int.natCast_nonneg _), Int.toNat_natCast, Int.toNat_natCast]
  have : b &&& 2 ^ q = 0 := Nat.eq_of_testBit_eq fun i => by
    rw [Nat.testBit_and, Nat.testBit_two_pow, Nat.zero_testBit]
    by_cases e : q = i
    · subst e; rw [h]; rfl
    · rw [decide_eq_false e, Bool.and_false]
  rw [this]
  rfl
theorem or_nat (b m : Nat) : Builtin.bitOr (b : Int) (m : Int) = ((b ||| m : Nat) : Int) := by
  rw [Bits.bitOr_pp (Int.natCast_nonneg _) (Int.natCast_nonneg _), Int.toNat_natCast, Int.toNat_natCast]
theorem get_natV {l : List Nat} {i m : Nat} (h : l[i]? = some m) : (l.map natV)[i]? = some (.int (m : Int)) := by
  rw [List.getElem?_map, h]
  rfl
def MaskOk (A : Nat → Int → Prop) (j m : Nat) : Prop := ∀ z : Nat, m.testBit z = true → A j (z : Int)
def spTwice : Sp := fun vs H Q _ => ∃ (nt : Addr) (as : List Addr) (rows : List (List Int)) (e : Int), vs = [.ref nt] ∧ H nt = some (.tup (as.map V.ref)) ∧ RowsAt H as rows ∧ rows.length ≤ 400 ∧ (∀ i row, rows[i]? = some row → RowOk i rows.length e row) ∧ Cert rows ∧ ∀ H', Same H H' → Q .non H'
def spIn (C : Addr) : Sp := fun vs H Q _ => ∃ (x : Addr) (dx : Addr) (fs : List (Str × V)) (nt : Addr) (xs : List V) (e z : Int), vs = [.ref x, .int z] ∧ H x = some (.ins C dx fs) ∧ fs.lookup ("ends" : Str) = some (.int e) ∧ fs.lookup ("nodes" : Str) = some (.ref nt) ∧ H nt = some (.tup xs) ∧ Q (.bl (decide (-e ≤ z ∧ z < (xs.length : Nat)))) H
def spStand (C : Addr) : Sp := fun vs H Q _ => ∃ (x dx nt nd : Addr) (fs : List (Str × V)) (xs : List V) (e : Int) (k : Nat) (row : List Int), vs = [.ref x, .int k, .ref nd] ∧ H x = some (.ins C dx fs) ∧ fs.lookup ("ends" : Str) = some (.int e) ∧ fs.lookup ("nodes" : Str) = some (.ref nt) ∧ H nt = some (.tup xs) ∧ H nd = some (.tup (row.map V.int)) ∧ RowOk k xs.length e row ∧ ∀ H', Same H H' → Q (.bl true) H'
def spLenW (C : Addr) : Sp := fun vs H Q _ => ∃ (x dx nt : Addr) (fs : List (Str × V)) (xs : List V), vs = [.ref x] ∧ H x = some (.ins C dx fs) ∧ fs.lookup ("nodes" : Str) = some (.ref nt) ∧ H nt = some (.tup xs) ∧ Q (.int (xs.length : Nat)) H
def spFirst (C : Addr) : Sp := fun vs H Q _ => ∃ (x dx nt : Addr) (fs : List (Str × V)) (xs : List V), vs = [.ref x] ∧ H x = some (.ins C dx fs) ∧ fs.lookup ("nodes" : Str) = some (.ref nt) ∧ H nt = some (.tup xs) ∧ Q (.int (if xs.isEmpty then -1 else 0)) H
theorem at_tup {l : List V} {j : Nat} {v : V} (h : l[j]? = some v) : atI l (j : Int) = some v := atI_nat h
theorem cut_row (q : Int) (r : List Int) : cutV ((q :: r).map V.int) (some 1) none = r.map V.int := by
  unfold cutV HT.sIx
  simp only [List.length_map, List.length_cons]
  rw [if_neg (by decide)]
  show List.take (r.length + 1 - min 1 (r.length + 1)) (List.drop (min 1 (r.length + 1)) (V.int q :: r.map V.int)) = _
  rw [Nat.min_eq_left (Nat.succ_le_succ (Nat.zero_le _))]
  show List.take (r.length + 1 - 1) (r.map V.int) = _
  exact List.take_of_length_le (by rw [List.length_map]; omega)
/-- node[1:] of a row -/
theorem rest_row {K : PySem.W.Frag} {H : Hp} {a : Addr} {q : Int} {r : List Int} {Q : VK} (h : H a = some (.tup ((q :: r).map V.int))) (k : ∀ p, H p = none → Q (.ref p) (upd H p (.tup (r.map V.int)))) : rSlA K (.ref a) (some 1) none H Q := by
  refine ⟨a, _, rfl, tup_of h, fun e => ?_, fun _ p np => ?_⟩
  · exfalso
    have e := e.1
    unfold HT.sIx at e
    dsimp only at e
    rw [if_neg (by decide), List.map_cons, List.length_cons] at e
    have : min (1 : Int).toNat ((r.map V.int).length + 1) = 1 := Nat.min_eq_left (Nat.succ_le_succ (Nat.zero_le _))
    rw [this] at e
    exact absurd e (by decide)
  · have ec : cutV ((q :: r).map V.int) (some 1) none = r.map V.int := by
      rw [cut_row]
    rw [ec]
    exact k p np
/-- a row as it is passed: a tuple or a list -/
def RowIn (H : Hp) (a : Addr) (row : List Int) : Prop := H a = some (.tup (row.map V.int)) ∨ H a = some (.lst (row.map V.int))
theorem RowIn.same {H H' : Hp} {a : Addr} {row : List Int} (e : Same H H') (h : RowIn H a row) : RowIn H' a row := h.elim (fun h => .inl (e _ _ h)) fun h => .inr (e _ _ h)
def StartV (rows : List (List Int)) (o : Int) (v : V) : Prop := v = .int o ∨ (v = .non ∧ o = if rows.isEmpty then -1 else 0)
def spWebInit (K : PySem.W.Frag) (C : Addr) : Sp := fun vs H Q _ => ∃ (x dx q : Addr) (as : List Addr) (rows : List (List Int)) (e o : Int) (v : V), vs = [.ref x, .ref q, .int e, v] ∧ H x = some (.ins C dx []) ∧ SqL K H q (as.map V.ref) ∧ as.length = rows.length ∧
  (∀ (i : Nat) a row, as[i]? = some a → rows[i]? = some row → RowIn H a row) ∧ GoodW rows e o ∧ StartV rows o v ∧
  ∀ H', WebAt C H' x rows e o → (∀ b u, b ≠ x → H b = some u → H' b = some u) → Q .non H'
theorem put1 {v : V} : putF ("nodes" : Str) v [] = [(("nodes" : Str), v)] := by rfl
theorem put2 {u v : V} : putF ("ends" : Str) v [(("nodes" : Str), u)] = [(("nodes" : Str), u), (("ends" : Str), v)] := by rfl
theorem put3 {u v z : V} : putF ("start" : Str) v [(("nodes" : Str), u), (("ends" : Str), z)] = [(("nodes" : Str), u), (("ends" : Str), z), (("start" : Str), v)] := by rfl
/-! ## drawn webs -/
def spNames (K : PySem.W.Frag) : Sp := fun vs H Q _ => ∃ (p : Addr) (c : Nat) (m : Int), vs = [.ref p, .int m] ∧ PoolOk K p c H ∧ c + 100 < LIM ∧ 0 < m ∧ m ≤ 48 ∧
  ∀ H' D l, H D = none → Gd H H' → PoolOk K p (c + 100) H' → H' D = some (.lst (l.map V.int)) → Qn l → l ≠ [] → (l.length : Int) ≤ m → l.Nodup → Q (.ref D) H'
def TgtOk (e cnt idx t : Int) : Prop := -e ≤ t ∧ t < cnt ∧ ¬ (0 ≤ t ∧ t ≤ idx)
def spTarget (K : PySem.W.Frag) : Sp := fun vs H Q _ => ∃ (p : Addr) (c : Nat) (idx cnt e : Int), vs = [.ref p, .int idx, .int cnt, .int e] ∧ PoolOk K p c H ∧ c + 10 < LIM ∧ 0 ≤ idx ∧ idx < cnt ∧ cnt ≤ 400 ∧ 1 ≤ e ∧ e ≤ 60 ∧
  ∀ H' t, Gd H H' → PoolOk K p (c + 3) H' → TgtOk e cnt idx t → Q (.int t) H'
/-- one drawn node: its question is in its own list b, in none of the lists of its targets, and b holds these -/
def NdOk (e : Int) (N g : Nat) (nms row b : List Int) (bels : List (List Int)) : Prop := ∃ q r, row = q :: r ∧ (r.length = 2 ∨ r.length = 3) ∧ q ∈ nms ∧ q ∈ b ∧ ∀ t ∈ r, TgtOk e N g t ∧ (0 ≤ t → ∃ b', bels[(t - g - 1).toNat]? = some b' ∧ q ∉ b' ∧ ∀ z ∈ b', z ∈ b)
def GoodS (e : Int) (N : Nat) (nms : List Int) : List (List Int) → List (List Int) → Prop
  | [], [] => True
  | row :: rows, b :: bels => GoodS e N nms rows bels ∧ NdOk e N (N - (rows.length + 1)) nms row b bels
  | [], _ :: _ => False
  | _ :: _, [] => False
theorem GoodS.len {e : Int} {N : Nat} {nms : List Int} : ∀ {rows bels : List (List Int)}, GoodS e N nms rows bels → bels.length = rows.length
  | [], [], _ => rfl
  | _ :: _, _ :: _, h => by rw [List.length_cons, List.length_cons, GoodS.len h.1]
  | [], _ :: _, h => h.elim
  | _ :: _, [], h => h.elim
/-- by places: base is what stands before these rows -/
theorem GoodS.at {e : Int} {N : Nat} {nms : List Int} : ∀ {rows bels : List (List Int)} {base : Nat}, GoodS e N nms rows bels → base + rows.length = N → ∀ (j : Nat) row, rows[j]? = some row →
    ∃ q r b, row = q :: r ∧ (r.length = 2 ∨ r.length = 3) ∧ q ∈ nms ∧ bels[j]? = some b ∧ q ∈ b ∧ ∀ t ∈ r, TgtOk e N (base + j : Nat) t ∧ (0 ≤ t → ∃ b', bels[t.toNat - base]? = some b' ∧ q ∉ b' ∧ ∀ z ∈ b', z ∈ b)
  | [], [], _, _, _, j, row, hj => by simp at hj
  | [], _ :: _, _, h, _, _, _, _ => h.elim
  | _ :: _, [], _, h, _, _, _, _ => h.elim
  | row0 :: rows, b0 :: bels, base, h, hb, j, row, hj => by
    rw [List.length_cons] at hb
    cases j with
    | zero =>
      obtain rfl : row0 = row := Option.some.inj hj
      obtain ⟨q, r, e1, hl, hq, hqb, ht⟩ := h.2
      have eg : N - (rows.length + 1) = base := by omega
      rw [eg] at ht
      refine ⟨q, r, b0, e1, hl, hq, rfl, hqb, fun t m => ?_⟩
      obtain ⟨h1, h2⟩ := ht t m
      refine ⟨by simpa using h1, fun t0 => ?_⟩
      obtain ⟨b', hb', h3⟩ := h2 t0
      have := h1.2.2
      have hlt : (base : Int) < t := by
        refine Int.not_le.mp fun hle => this ⟨t0, hle⟩
      refine ⟨b', ?_, h3⟩
      have : t.toNat - base = (t - base - 1).toNat + 1 := by omega
      rw [this, List.getElem?_cons_succ]
      exact hb'
    | succ j =>
      obtain ⟨q, r, b, e1, hl, hq, hbj, hqb, ht⟩ := GoodS.at (base := base + 1) h.1 (by omega) j row hj
      refine ⟨q, r, b, e1, hl, hq, hbj, hqb, fun t m => ?_⟩
      obtain ⟨h1, h2⟩ := ht t m
      refine ⟨by rw [show base + (j + 1) = base + 1 + j by omega]; exact h1, fun t0 => ?_⟩
      obtain ⟨b', hb', h3⟩ := h2 t0
      have := h1.2.2
      have hlt : ((base + 1 + j : Nat) : Int) < t := by
        refine Int.not_le.mp fun hle => this ⟨t0, hle⟩
      refine ⟨b', ?_, h3⟩
      have : t.toNat - base = (t.toNat - (base + 1)) + 1 := by omega
      rw [this, List.getElem?_cons_succ]
      exact hb'
theorem GoodS.good {e o : Int} {nms : List Int} {rows bels : List (List Int)} (h : GoodS e rows.length nms rows bels) (hn : Qn nms) (e1 : 1 ≤ e) (e2 : e ≤ 60) (hl : rows.length ≤ 400) (o1 : -e ≤ o) (o2 : o < rows.length) : GoodW rows e o := by
  refine ⟨e1, e2, hl, fun i row hi => ?_, o1, o2, fun g z => ∃ b, bels[g]? = some b ∧ z ∈ b, fun i q r hi => ?_⟩
  · obtain ⟨q, r, b, er, hr, hq, _, _, ht⟩ := h.at (base := 0) (Nat.zero_add _) i row hi
    refine ⟨q, r, er, hr, (hn q hq).1, (hn q hq).2, fun t m => ?_⟩
    have := (ht t m).1
    rw [Nat.zero_add] at this
    exact this
  · obtain ⟨q', r', b, er, hr, hq, hb, hqb, ht⟩ := h.at (base := 0) (Nat.zero_add _) i _ hi
    obtain ⟨rfl, rfl⟩ := List.cons.inj er
    refine ⟨⟨b, hb, hqb⟩, fun t m t0 => ?_⟩
    obtain ⟨b', hb', h1, h2⟩ := (ht t m).2 t0
    rw [Nat.sub_zero] at hb'
    refine ⟨fun ⟨b2, hb2, hz⟩ => ?_, fun z ⟨b2, hb2, hz⟩ => ?_⟩
    · rw [hb'] at hb2
      obtain rfl := Option.some.inj hb2
      exact h1 hz
    · rw [hb'] at hb2
      obtain rfl := Option.some.inj hb2
      exact ⟨b, hb, h2 z hz⟩
def spNodes (K : PySem.W.Frag) : Sp := fun vs H Q _ => ∃ (p nm : Addr) (c N : Nat) (e : Int) (sk : Bool) (nms : List Int), vs = [.ref p, .int (N : Int), .int e, .ref nm, .bl sk] ∧ PoolOk K p c H ∧ c + 1000 < LIM ∧ N ≤ 13 ∧ 1 ≤ e ∧ e ≤ 60 ∧
  H nm = some (.lst (nms.map V.int)) ∧ nms ≠ [] ∧ nms.length ≤ 48 ∧
  ∀ H' D as rows bels, H D = none → Gd H H' → PoolOk K p (c + 1000) H' → H' D = some (.lst (as.map V.ref)) → RowsAt H' as rows → rows.length = N → GoodS e N nms rows bels → Q (.ref D) H'
theorem Gd.but {H0 H H' : Hp} {D : Addr} (g : Gd H0 H) (n : H0 D = none) (k : ∀ b o, b ≠ D → H b = some o → H' b = some o) : Gd H0 H' :=
  ⟨fun b o np h => k b o (ne_of_none h n) (g.1 b o np h), fun b o pl h => let ⟨o', p', h'⟩ := g.2 b o pl h; ⟨o', p', k b o' (ne_of_none h n) h'⟩⟩
theorem PoolOk.but {K : PySem.W.Frag} {p D : Addr} {c : Nat} {H H' : Hp} {ys : List V} (h : PoolOk K p c H) (hD : H D = some (.lst ys)) (n : ¬ isPool (.lst ys)) (k : ∀ b o, b ≠ D → H b = some o → H' b = some o) : PoolOk K p c H' := by
  obtain ⟨sa, ns, c', i, b, s, h1, h2, h3⟩ := h
  refine ⟨sa, ns, c', i, b, s, ?_, k _ _ (fun e => ?_) h2, h3⟩
  · rcases h1 with ⟨o, h1⟩ | h1
    · exact .inl ⟨o, k _ _ (ne_of h1 hD (by intro z; cases z)) h1⟩
    · exact .inr h1
  · subst e
    rw [h2] at hD
    injection hD with hD
    exact n ⟨sa, c', i, b, s, hD.symm⟩
theorem at_int {l : List Int} {r : Int} (h0 : 0 ≤ r) (h1 : r < (l.length : Int)) : ∃ z, z ∈ l ∧ atI (l.map V.int) r = some (.int z) := by
  obtain ⟨j, rfl⟩ : ∃ j : Nat, r = (j : Int) := ⟨r.toNat, by omega⟩
  have hj : j < l.length := by omega
  exact ⟨l[j], List.getElem_mem hj, atI_nat (by rw [List.getElem?_map, List.getElem?_eq_getElem hj]; rfl)⟩
/-! ## web[i] in a try body -/
section
variable {X : Cx} {CX : CXT} {n : Nat} {f C : Addr} {fd : FuncData} {ps : List Str} {sp : Sp} {pins : List (Addr × Obj)} {σ : St} {H : Hp} {s : Shared}
theorem run_ownS {E : XK} {A : Around} {vs : List V} {us : List Value} {Q : VK} (F : FnOk X.prog X.w X.K X.mg X.base CX n f fd ps sp) (sb : Sub X n A) (hb : Binds X.K fd ps []) (hx : PassesAt CX X σ E)
    (I : Inv X pins σ H s) (r : Vals vs us) (h : sp vs H Q E) : wpAny (model X.prog X.w) A (call (.ref f) us) (EP X pins σ Q) X.xe s := by
  have e0 : Env0 X.prog X.w X.K X.mg X.base A X.stack s H := by
    have e := I.env0
    exact ⟨by rw [sb.fr]; exact e.frames, e.mod, e.bs, e.bsz, e.funs, e.frf, e.hok, e.bare⟩
  have hl := F.len _ _ _ _ h
  have hl2 : us.length = ps.length := by rw [← hl, r.length]
  refine wpAny_call (codeAny_mono (F.run A X.stack s H ⟨us, []⟩ us vs Q E sb.room e0 (by
    have := hb s us I.kIn (by simpa using hl2)
    simpa using this) r h) fun r' s' hq => ?_)
  cases r' with
  | error e => exact hx pins H s e s' I hq
  | ok fl =>
    cases fl with
    | ret w => exact I.after hq
    | next => exact False.elim hq
    | brk => exact False.elim hq
    | cont => exact False.elim hq
def tOwnIxS (C : Addr) (sp : Sp) (E : St → XK) (ta tb : TE) : TE := fun σ H Q => ta σ H fun x H1 => tb σ H1 fun y H2 => rOwnIx C sp (E σ) x y H2 Q
theorem pe_ownIxS {E : St → XK} {a b : Expr} {ta tb : TE} {pos : Pos} (F : FnOk X.prog X.w X.K X.mg X.base CX n f fd ps sp) (hr : Room (n + 1) X.A) (hs : PySem.W.findIn X.K (.ref C) "__getitem__" = some (some (.ref f))) (hfn : PySem.W.fnIn X.K f = true) (hf : PySem.W.isFn X.K (.ref f) = true)
    (hb : Binds X.K fd ps []) (hx : ∀ σ, PassesAt CX X σ (E σ)) (ha : PE X a ta) (hb' : PE X b tb)
    (hsl : ∀ x i, subscripted b true (.ref x) i = runValue (.builtin "lifetime.subscript" ⟨[.ref x, i], []⟩) := by intro _ _; with_unfolding_all rfl) : PE X (.Subscript a b pos) (tOwnIxS C sp E ta tb) := by
  refine ⟨fun pins s σ H Q I h => ?_⟩
  refine Subscript_ (binT ha hb' I h fun v u s2 x y H2 I2 rx ry q => ?_)
  obtain ⟨c, dx, fs, rfl, hc, q⟩ := q
  cases rx
  obtain ⟨mB, J', _⟩ := ins_get I2.hok hc
  obtain ⟨od', J', _⟩ := J'.look
  obtain ⟨m, hF⟩ := I2.fr
  have sb : Sub X (n + 1) X.A := ⟨hr, rfl⟩
  exact PySem.W.sub_K hF I2.ok.mod.kin J' hs hfn hf (run_ownS (vs := [.ref c, y]) F sb.in1 hb (hx σ) I2 (.cons rfl (.cons ry .nil)) q) (hsl _ _)
end
/-- web[at] -/
def spItem (C CN : Addr) : Sp := fun vs H Q E => ∃ (x : Addr) (rows : List (List Int)) (e o z : Int), vs = [.ref x, .int z] ∧ WebAt C H x rows e o ∧ Bd z ∧
  ((0 ≤ z ∧ z < rows.length) → ∀ t row, rows[z.toNat]? = some row → H t = some (.tup (row.map V.int)) → Q (.ref t) H) ∧
  (¬ (0 ≤ z ∧ z < rows.length) → ∀ d H', H d = none → Same H H' → H' d = some (.xd [("index", .int z)]) → E (.ref CN) (some d) H')
/-! equality of tuples of tuples -/
def rowD (r : List Int) : PyData := .tuple (r.map PyData.int)
theorem dpAll_rows {K : PySem.W.Frag} {H : Hp} : ∀ {as : List Addr} {rows : List (List Int)}, RowsAt H as rows → DpAll K H (as.map V.ref) (rows.map rowD)
  | [], [], _ => .nil
  | [], _ :: _, h => by cases h.1
  | _ :: _, [], h => by cases h.1
  | a :: as, r :: rows, h => .cons (.tup (tup_of (h.2 0 a r rfl rfl)) (dpAll_ints r)) (dpAll_rows ⟨by have := h.1; simpa using this, fun j b row h1 h2 => h.2 (j + 1) b row h1 h2⟩)
theorem canLay_rows : ∀ rows : List (List Int), PyData.canLayAll0 (rows.map rowD) = true
  | [] => by rw [List.map_nil, PyData.canLayAll0]
  | n :: r => by
    rw [List.map_cons, PyData.canLayAll0, canLay_rows r]
    simp [rowD, PyData.canLay0, canLay_ints]
theorem depth_rows : ∀ rows : List (List Int), PyData.depthAll (rows.map rowD) ≤ 1
  | [] => by rw [List.map_nil, PyData.depthAll]; decide
  | n :: r => by
    have := depth_rows r
    rw [List.map_cons, PyData.depthAll]
    simp [rowD, PyData.depth, depth_ints]
    omega
theorem shR (rows : List (List Int)) : SeqAt.shaped (.tuple (rows.map rowD)) = true := by
  have := depth_rows rows
  simp [SeqAt.shaped, PyData.canLay0, canLay_rows, PyData.depth]
  omega
theorem ev_rows : ∀ rows rows2 : List (List Int), PyData.eqvAll (rows.map rowD) (rows2.map rowD) = decide (rows = rows2)
  | [], [] => by rw [List.map_nil, PyData.eqvAll]; rfl
  | [], _ :: _ => by rw [List.map_nil, List.map_cons, PyData.eqvAll]; rfl
  | _ :: _, [] => by rw [List.map_nil, List.map_cons, PyData.eqvAll]; rfl
  | a :: r, b :: s => by
    rw [List.map_cons, List.map_cons, PyData.eqvAll, ev_rows r s]
    unfold rowD
    rw [evT, Bool.eq_iff_iff, Bool.and_eq_true, decide_eq_true_eq, decide_eq_true_eq, decide_eq_true_eq, List.cons.injEq]
theorem eqD_rows {K : PySem.W.Frag} {H : Hp} {a b : Addr} {as bs : List Addr} {rows rows2 : List (List Int)} {Q : VK} (h1 : H a = some (.tup (as.map V.ref))) (h2 : H b = some (.tup (bs.map V.ref))) (r1 : RowsAt H as rows) (r2 : RowsAt H bs rows2) (q : Q (.bl (decide (rows = rows2))) H) : rEqD K (.ref a) (.ref b) H Q :=
  ⟨_, _, .tup (tup_of h1) (dpAll_rows r1), .tup (tup_of h2) (dpAll_rows r2), shR rows, shR rows2, by rw [PyData.eqv, ev_rows]; exact q⟩
theorem neD_rows {K : PySem.W.Frag} {H : Hp} {a b : Addr} {as bs : List Addr} {rows rows2 : List (List Int)} {Q : VK} (h1 : H a = some (.tup (as.map V.ref))) (h2 : H b = some (.tup (bs.map V.ref))) (r1 : RowsAt H as rows) (r2 : RowsAt H bs rows2) (q : Q (.bl (!decide (rows = rows2))) H) : rNeD K (.ref a) (.ref b) H Q :=
  ⟨_, _, .tup (tup_of h1) (dpAll_rows r1), .tup (tup_of h2) (dpAll_rows r2), shR rows, shR rows2, by rw [PyData.eqv, ev_rows]; exact q⟩
/-- web == other -/
def spEqW (C : Addr) : Sp := fun vs H Q _ => ∃ (x y : Addr) (rows rows2 : List (List Int)) (e o e2 o2 : Int), vs = [.ref x, .ref y] ∧ WebAt C H x rows e o ∧ WebAt C H y rows2 e2 o2 ∧ Q (.bl (decide (rows = rows2 ∧ e = e2 ∧ o = o2))) H
theorem neD_bad {K : PySem.W.Frag} {H : Hp} {x y : Addr} {s : Str} {z : Int} {Q : VK} (h1 : SqT K H x [.str s, .int z]) (h2 : SqT K H y [.str s, .int z]) (q : Q (.bl false) H) (hs : PyData.strOk s = true := by decide +kernel) : rNeD K (.ref x) (.ref y) H Q := by
  refine ⟨_, _, .tup h1 (.cons (.str s) (.cons (.int z) .nil)), .tup h2 (.cons (.str s) (.cons (.int z) .nil)), ?_, ?_, ?_⟩
  · simp [SeqAt.shaped, PyData.canLay0, PyData.canLayAll0, PyData.depth, PyData.depthAll, hs]
  · simp [SeqAt.shaped, PyData.canLay0, PyData.canLayAll0, PyData.depth, PyData.depthAll, hs]
  · rw [show PyData.eqv (.tuple [.str s, .int z]) (.tuple [.str s, .int z]) = true by simp [PyData.eqv, PyData.eqvAll]]
    exact q
def spSameW (C : Addr) : Sp := fun vs H Q _ => ∃ (x q : Addr) (as : List Addr) (rows : List (List Int)) (e o : Int), vs = [.ref x, .ref q, .int e, .int o] ∧ WebAt C H x rows e o ∧ H q = some (.lst (as.map V.ref)) ∧ RowsAt H as rows ∧ rows.length ≤ 400 ∧ 1 ≤ e ∧ e ≤ 60 ∧ ∀ H', Same H H' → Q (.bl true) H'
end L2

namespace L2
open PySem PySem.Spec PyProof.Rows
/-! ## webs with one row changed -/
theorem GoodW.more {rows : List (List Int)} {e o : Int} (h : GoodW rows e o) (he : e < 60) : GoodW rows (e + 1) o := by
  refine ⟨by have := h.e1; omega, by omega, h.len, fun i row hi => ?_, by have := h.o1; omega, h.o2, h.cert⟩
  obtain ⟨q, r, e1, h1, h2, h3, h4⟩ := h.row i row hi
  exact ⟨q, r, e1, h1, h2, h3, fun t m => by obtain ⟨x, y, z⟩ := h4 t m; exact ⟨by omega, y, z⟩⟩
theorem GoodW.from {rows : List (List Int)} {e o : Int} {o' : Int} (h : GoodW rows e o) (h1 : -e ≤ o') (h2 : o' < rows.length) : GoodW rows e o' := ⟨h.e1, h.e2, h.len, h.row, h1, h2, h.cert⟩
theorem GoodW.put {rows : List (List Int)} {e o : Int} {k : Nat} {q q' : Int} {r r' : List Int} (h : GoodW rows e o) (hk : rows[k]? = some (q :: r)) (hl : r'.length = 2 ∨ r'.length = 3) (q0 : 0 ≤ q') (q1 : q' < 48)
    (hq : q' = q ∨ ∀ (i : Nat) (z : Int) (s : List Int), rows[i]? = some (z :: s) → z ≠ q') (hr : ∀ t ∈ r', (0 ≤ t → t ∈ r) ∧ -e ≤ t) : GoodW (rows.set k (q' :: r')) e o := by
  obtain ⟨A, hA⟩ := h.cert
  have hkl : k < rows.length := (List.getElem?_eq_some_iff.mp hk).1
  have tok : ∀ t ∈ r', -e ≤ t ∧ t < (rows.length : Int) ∧ ¬ (0 ≤ t ∧ t ≤ k) := fun t m => by
    obtain ⟨h1, h2⟩ := hr t m
    by_cases t0 : 0 ≤ t
    · obtain ⟨q2, r2, e2, _, _, _, h3⟩ := h.row k _ hk
      obtain ⟨rfl, rfl⟩ := List.cons.inj e2
      exact h3 t (h1 t0)
    · exact ⟨h2, by omega, by omega⟩
  refine ⟨h.e1, h.e2, by rw [List.length_set]; exact h.len, fun i row hi => ?_, h.o1, by rw [List.length_set]; exact h.o2, ?_⟩
  · rw [List.length_set]
    by_cases hik : k = i
    · subst hik
      rw [List.getElem?_set_self hkl] at hi
      obtain rfl := Option.some.inj hi
      exact ⟨q', r', rfl, hl, q0, q1, tok⟩
    · rw [List.getElem?_set_ne hik] at hi
      exact h.row i row hi
  · rcases hq with rfl | hq
    · refine ⟨A, fun i z s hi => ?_⟩
      by_cases hik : k = i
      · subst hik
        rw [List.getElem?_set_self hkl] at hi
        obtain ⟨rfl, rfl⟩ := List.cons.inj (Option.some.inj hi)
        obtain ⟨a1, a2⟩ := hA k _ _ hk
        exact ⟨a1, fun t m t0 => a2 t ((hr t m).1 t0) t0⟩
      · rw [List.getElem?_set_ne hik] at hi
        exact hA i z s hi
    · refine ⟨fun i z => (A i z ∧ z ≠ q') ∨ (z = q' ∧ i ≤ k), fun i z s hi => ?_⟩
      by_cases hik : k = i
      · subst hik
        rw [List.getElem?_set_self hkl] at hi
        obtain ⟨rfl, rfl⟩ := List.cons.inj (Option.some.inj hi)
        refine ⟨.inr ⟨rfl, Nat.le_refl _⟩, fun t m t0 => ?_⟩
        have ht := (tok t m).2.2
        have tk : k < t.toNat := by omega
        refine ⟨fun hh => ?_, fun y hy => ?_⟩
        · rcases hh with ⟨_, h2⟩ | ⟨_, h2⟩
          · exact h2 rfl
          · omega
        · rcases hy with ⟨h1, h2⟩ | ⟨_, h2⟩
          · exact .inl ⟨((hA k _ _ hk).2 t ((hr t m).1 t0) t0).2 y h1, h2⟩
          · omega
      · rw [List.getElem?_set_ne hik] at hi
        have zq := hq i z s hi
        obtain ⟨a1, a2⟩ := hA i z s hi
        refine ⟨.inl ⟨a1, zq⟩, fun t m t0 => ?_⟩
        obtain ⟨b1, b2⟩ := a2 t m t0
        have ht : ¬ (0 ≤ t ∧ t ≤ i) := by
          obtain ⟨q2, r2, e2, _, _, _, h3⟩ := h.row i _ hi
          obtain ⟨rfl, rfl⟩ := List.cons.inj e2
          exact (h3 t m).2.2
        refine ⟨fun hh => ?_, fun y hy => ?_⟩
        · rcases hh with ⟨h1, _⟩ | ⟨h1, _⟩
          · exact b1 h1
          · exact zq h1
        · rcases hy with ⟨h1, h2⟩ | ⟨h1, h2⟩
          · exact .inl ⟨b2 y h1, h2⟩
          · exact .inr ⟨h1, by omega⟩
theorem GoodW.snoc {rows : List (List Int)} {e o q : Int} (h : GoodW rows e o) (hl : rows.length < 400) (q0 : 0 ≤ q) (q1 : q < 48) : GoodW (rows ++ [[q, -1, -1]]) e o := by
  obtain ⟨A, hA⟩ := h.cert
  have e1 := h.e1
  have ll : (rows ++ [[q, -1, -1]]).length = rows.length + 1 := by rw [List.length_append]; rfl
  have cs : ∀ {i : Nat} {row : List Int}, (rows ++ [[q, -1, -1]])[i]? = some row → (i < rows.length ∧ rows[i]? = some row) ∨ (i = rows.length ∧ row = [q, -1, -1]) := fun {i row} hi => by
    by_cases hj : i < rows.length
    · rw [List.getElem?_append_left hj] at hi
      exact .inl ⟨hj, hi⟩
    · rw [List.getElem?_append_right (by omega)] at hi
      have h0 : i - rows.length = 0 := by
        have := (List.getElem?_eq_some_iff.mp hi).1
        rw [List.length_singleton] at this
        omega
      rw [h0] at hi
      exact .inr ⟨by omega, (Option.some.inj hi).symm⟩
  refine ⟨e1, h.e2, by rw [ll]; omega, fun i row hi => ?_, h.o1, by have := h.o2; rw [ll]; omega, fun i z => if i < rows.length then A i z else z = q, fun i z s hi => ?_⟩
  · rw [ll]
    rcases cs hi with ⟨_, hi⟩ | ⟨rfl, rfl⟩
    · obtain ⟨q2, r2, e2, h1, h2, h3, h4⟩ := h.row i row hi
      exact ⟨q2, r2, e2, h1, h2, h3, fun t m => by obtain ⟨x, y, z⟩ := h4 t m; exact ⟨x, by omega, z⟩⟩
    · exact ⟨q, [-1, -1], rfl, .inl rfl, q0, q1, fun t m => by
        have : t = -1 := by simpa using m
        omega⟩
  · show (if i < rows.length then A i z else z = q) ∧ ∀ t, t ∈ s → 0 ≤ t → ¬ (if t.toNat < rows.length then A t.toNat z else z = q) ∧ ∀ y, (if t.toNat < rows.length then A t.toNat y else y = q) → (if i < rows.length then A i y else y = q)
    rcases cs hi with ⟨hil, hi⟩ | ⟨rfl, hi2⟩
    · obtain ⟨a1, a2⟩ := hA i z s hi
      simp only [if_pos hil]
      refine ⟨a1, fun t m t0 => ?_⟩
      have ht : t < rows.length := by
        obtain ⟨q2, r2, e2, _, _, _, h3⟩ := h.row i _ hi
        obtain ⟨rfl, rfl⟩ := List.cons.inj e2
        exact (h3 t m).2.1
      simp only [if_pos (show t.toNat < rows.length by omega)]
      exact a2 t m t0
    · obtain ⟨rfl, rfl⟩ := List.cons.inj hi2
      simp only [if_neg (Nat.lt_irrefl _)]
      refine ⟨trivial, fun t m t0 => ?_⟩
      have : t = -1 := by simpa using m
      omega
theorem set_eq_iff {rows : List (List Int)} {k : Nat} {row row' : List Int} (hk : rows[k]? = some row) : rows = rows.set k row' ↔ row' = row := by
  have hkl : k < rows.length := (List.getElem?_eq_some_iff.mp hk).1
  constructor
  · intro h
    have h2 : (rows.set k row')[k]? = some row' := List.getElem?_set_self hkl
    rw [← h, hk] at h2
    exact (Option.some.inj h2).symm
  · rintro rfl
    refine List.ext_getElem? fun i => ?_
    by_cases hik : k = i
    · subst hik; rw [List.getElem?_set_self hkl, hk]
    · rw [List.getElem?_set_ne hik]
theorem cut_set {α : Type} (l : List α) {k : Nat} (hk : k < l.length) (x : α) : l.take k ++ [x] ++ l.drop (k + 1) = l.set k x := by
  rw [List.set_eq_take_append_cons_drop, if_pos hk, List.append_assoc]
  rfl
/-- a comprehension within one: nothing free in it -/
theorem blkOk_any {N : List Str} {sc0 sc scope : Scope} {own : List (Str × Nat)} (h : blkC N sc0 scope own = true) (hf : (scope.names.all fun y => match y.2 with | NameKind.free => false | _ => true) = true) : BlkOk N sc scope own :=
  let b := blkOk_by h
  have hfree : ∀ y ∈ scope.names, y.2 = NameKind.free → List.lookup y.1 sc.names = some NameKind.cell ∨ List.lookup y.1 sc.names = some NameKind.free := fun y hy e => by
    have := List.all_eq_true.mp hf y hy
    rw [e] at this
    cases this
  ⟨b.kind, b.uniq, b.ix, hfree, b.own⟩
end L2

namespace L2
open PySem PySem.Spec PyProof.Rows
/-! ## set(l), l a list of ints -/
theorem call_set_lstI {P : Program} {w : World} {A : Around} {E : Value → Shared → Prop} {s : Shared} {l : Addr} {items : Array Value} (ns : List Int) {Q : Value → Shared → Prop} (hh : A.handled = none) (hl : s.heap.IsList l items) (hit : IntsAre items.toList ns) (hb : ns.length + 1 < scanBound)
    (h : ∀ (h' : Heap) (tk c : Nat), SetR w h' s.heap.objs.size (fun j => decide (j ∈ ns)) c → c ≤ ns.length → (∀ (b : Addr) (o : Obj), s.heap.get? b = some o → h'.get? b = some o) → Q (Value.ref s.heap.objs.size) { heap := h', gens := s.gens, drawn := s.drawn, toks := tk, os := s.os }) :
    wpAny (model P w) A (call (Value.type "set") [Value.ref l]) Q E s := by
  have hisz : items.size = ns.length := by have := hit.length; simpa using this
  obtain ⟨c, tl, hmro⟩ := F.called_set.mro
  have hmade := F.called_set.made
  refine wpAny_call (codeAny_of_tree ?_)
  refine wpAny_pure ⟨Code.quiet_builtin _ (by decide +kernel), codeAny_builtin F.entry_type_call ?_⟩
  rw [Around.under_plain (weight_type_call_type "set" [Value.ref l] []) rfl]
  have hct := F.typeCall_set_1 (Value.ref l)
  have h1 := F.called_set.notType
  have h2 := F.called_set.canCreate
  unfold Builtin.«type.__call__»
  dsimp only
  refine wpAny_ite_false (by rw [h1]; rfl) ?_
  refine wpAny_ite_false (by rw [h2]; rfl) ?_
  refine wpAny_bind (wpAny_of_eq hct ?_)
  refine wpAny_bind (wpAny_of_eq hmro ?_)
  refine wpAny_ite_false rfl ?_
  refine wpAny_bind (wpAny_of_eq hmade ?_)
  refine wpAny_bind (wpAny_pure ?_)
  refine wpAny_bind (wpAny_holding ?_)
  refine wpAny_call (codeAny_mono (code_set_led1 (Q₁ := fun obj s₁ => obj = .ref s.heap.objs.size ∧ s₁ = { heap := s.heap.push { cls := Value.type "set", data := Data.set #[] 0 (SetTable.fresh 0 0 !w.params.followText "set-order") }, gens := s.gens, drawn := s.drawn, toks := s.toks, os := s.os }) (E := E) (Value.ref l) ⟨rfl, rfl⟩) fun r s₁ hr => ?_)
  match r, hr with
  | .error e, hr => exact hr
  | .ok .next, hr => exact hr.elim
  | .ok .brk, hr => exact hr.elim
  | .ok .cont, hr => exact hr.elim
  | .ok (.ret v), hr =>
    obtain ⟨rfl, rfl⟩ := hr
    have hS : Shared.TypeIs { heap := s.heap.push { cls := Value.type "set", data := Data.set #[] 0 (SetTable.fresh 0 0 !w.params.followText "set-order") }, gens := s.gens, drawn := s.drawn, toks := s.toks, os := s.os } (.ref s.heap.objs.size) "set" := ⟨_, Heap.get?_push_size _ rfl, rfl⟩
    refine wpAny_bind (wpAny_isInstance hS F.called_set.sub ?_)
    refine wpAny_ite_false rfl ?_
    refine wpAny_bind (wpAny_holding ?_)
    refine wpAny_bind (wpAny_specialOf hS F.called_set.init.lookup ?_)
    refine wpAny_holding ?_
    refine wpAny_bind (wpAny_of_eq (F.called_set.init.bind _) ?_)
    refine wpAny_bind (wpAny_call (codeAny_mono (codeAny_call_builtin (R := wants (fun r s₂ => r = Value.none ∧ ∃ h' tk c, s₂ = { heap := h', gens := s.gens, drawn := s.drawn, toks := tk, os := s.os } ∧ SetR w h' s.heap.objs.size (fun j => decide (j ∈ ns)) c ∧ c ≤ ns.length ∧ ∀ (b : Addr) (o : Obj), s.heap.get? b = some o → h'.get? b = some o) E) F.called_set.init.plain F.entry_set_init (check_set_init_1 hS ?_)) fun r s₂ hr => ?_))
    · show wpAny (model P w) A.in1.in1 (Builtin.«set.__init__» { pos := [Value.ref s.heap.objs.size, Value.ref l] }) _ _ _
      unfold Builtin.«set.__init__»
      dsimp only
      refine wpAny_bind ?_
      unfold noKeywords
      refine wpAny_ite_true rfl ?_
      refine wpAny_pure ?_
      refine wpAny_bind ?_
      unfold typeNameOfCut
      refine wpAny_bind ?_
      unfold shownTypeOf
      refine wpAny_bind ?_
      refine wpAny_typeOf hS ?_
      refine wpAny_ite_false rfl ?_
      refine wpAny_pure ?_
      refine wpAny_pure ?_
      refine wpAny_bind ?_
      unfold checkCount
      refine wpAny_ite_false rfl ?_
      refine wpAny_ite_false rfl ?_
      refine wpAny_ite_false rfl ?_
      refine wpAny_pure ?_
      refine wpAny_bind ?_
      refine wpAny_pure ?_
      refine wpAny_bind ?_
      unfold setUsed
      refine wpAny_bind ?_
      unfold setState
      refine wpAny_bind ?_
      refine wpAny_load' (Heap.get?_push_size _ rfl) ?_
      refine wpAny_ite_false rfl ?_
      refine wpAny_pure ?_
      refine wpAny_pure ?_
      refine wpAny_ite_false rfl ?_
      refine wpAny_bind ?_
      unfold Builtin.Frozenset.updateFrom Builtin.Frozenset.isAnySet
      refine wpAny_bind ?_
      obtain ⟨ol, hol, hcl, nl, hdl⟩ := id hl
      have hlt : l < s.heap.objs.size := Heap.lt_size hol
      have hol' : (s.heap.push { cls := Value.type "set", data := Data.set #[] 0 (SetTable.fresh 0 0 !w.params.followText "set-order") }).get? l = some ol := Heap.get?_push_of_some _ hol
      have hL : Shared.TypeIs { heap := s.heap.push { cls := Value.type "set", data := Data.set #[] 0 (SetTable.fresh 0 0 !w.params.followText "set-order") }, gens := s.gens, drawn := s.drawn, toks := s.toks, os := s.os } (.ref l) "list" := ⟨_, hol', hcl⟩
      refine wpAny_bind ?_
      refine wpAny_isInstance hL F.sub_list_set ?_
      refine wpAny_bind ?_
      refine wpAny_typeOf hL ?_
      refine wpAny_of_eq F.sub_list_frozenset ?_
      refine wpAny_ite_false rfl ?_
      refine wpAny_bind ?_
      refine wpAny_typeOf hL ?_
      refine wpAny_ite_false rfl ?_
      refine wpAny_bind ?_
      refine wpAny_pyIter_list (items := items) ⟨ol, hol', hcl, nl, hdl⟩ ?_
      refine wpAny_bind (wpAny_runValue ?_)
      have hz1 : (s.heap.push { cls := Value.type "set", data := Data.set #[] 0 (SetTable.fresh 0 0 !w.params.followText "set-order") }).objs.size = s.heap.objs.size + 1 := Heap.size_push _ _
      have hli : (s.heap.push { cls := Value.type "set", data := Data.set #[] 0 (SetTable.fresh 0 0 !w.params.followText "set-order") }).IsList l items := ⟨ol, hol', hcl, nl, hdl⟩
      refine set_update_ints (Walks.toS (Walks.list (A := A.in1.in1.in1) hh _ l (by rw [hz1]; exact Nat.ne_of_lt (Nat.lt_succ_of_lt hlt)) items)) s.heap.objs.size (by
        rw [hz1]
        intro hm
        rcases List.mem_cons.mp hm with h | h
        · exact absurd h (Nat.ne_of_lt (Nat.lt_succ_self _))
        · exact absurd (List.mem_singleton.mp h) (Nat.ne_of_gt hlt)) ns hisz hb (fun i v hv => ?_) _ 0 _ rfl (Nat.zero_le _) ⟨⟨_, Heap.get?_push_size _ rfl, rfl, rfl⟩, hli.push _⟩ ⟨0, Nat.le_refl _, setR_new_at ?_⟩ fun s' c2 mv hc hR => ?_
      · obtain ⟨t, e⟩ := IntsAre.int_at hit i v (by rw [Array.getElem?_toList]; exact hv)
        have hi : i < ns.length := by rw [← hisz]; exact (Array.getElem?_eq_some_iff.mp hv).1
        exact ⟨ns.getD i 0, t, by rw [List.getD_eq_getElem?_getD, List.getElem?_eq_getElem hi]; rfl, e⟩
      · exact Heap.get?_push_of_some _ (Heap.get?_push_size _ rfl)
      · refine wpAny_pure (wpAny_pure ⟨rfl, s'.heap, s'.toks, c2, ?_, hR, by omega, fun b o hbo => mv.heap b o ?_ (Heap.get?_push_of_some _ (Heap.get?_push_of_some _ hbo))⟩)
        · have m1 := mv.gens
          have m2 := mv.drawn
          have m3 := mv.os
          obtain ⟨h', g', d', t', o'⟩ := s'
          dsimp only at m1 m2 m3
          subst m1 m2 m3
          rfl
        · have hbl := Heap.lt_size hbo
          intro hm
          rcases List.mem_cons.mp hm with h | h
          · exact absurd h (Nat.ne_of_lt hbl)
          · have h := List.mem_singleton.mp h
            rw [hz1] at h
            exact absurd h (Nat.ne_of_lt (Nat.lt_succ_of_lt hbl))
    · match r, hr with
      | .error e, hr => exact hr
      | .ok .next, hr => exact hr.elim
      | .ok .brk, hr => exact hr.elim
      | .ok .cont, hr => exact hr.elim
      | .ok (.ret v), hr =>
        obtain ⟨rfl, h', tk, c2, rfl, hR, hc, hk⟩ := hr
        refine wpAny_pure ?_
        refine wpAny_ite_false rfl ?_
        exact wpAny_pure (h h' tk c2 hR hc hk)
section
variable {X : Cx}
/-- set(l), l a list of ints -/
def rSetOfL (K : PySem.W.Frag) (w : World) : List V → Hp → VK → Prop := fun xs H Q => ∃ (l : Addr) (ns : List Int), xs = [V.ref l] ∧ SqL K H l (ns.map V.int) ∧ ns.length ≤ 1000 ∧
  ∀ p c, H p = none → c ≤ ns.length → (∀ L : List Int, (∀ k ∈ ns, k ∈ L) → c ≤ L.length) → Q (.ref p) (upd H p (SetO w p (fun j => decide (j ∈ ns)) c))
theorem cr_setOfL (hc : X.calm = true) : CallR X (.type "set") (rSetOfL X.K X.w) := by
  intro pins s σ H xs us Q I r h
  obtain ⟨l, ns, rfl, hq, hl, q⟩ := h
  rw [Vals.ref1 r]
  obtain ⟨its, rv, pt, hz⟩ := I.list hq
  have hi : IntsAre its.toArray.toList ns := by simpa using ints_of_vals rv
  refine call_set_lstI ns (I.ok.hd hc) (let ⟨o, n, h1, h2, _, h4⟩ := pt; ⟨o, h1, h2, n, h4⟩) hi (by unfold scanBound; omega) fun h' tk c R hcn k => ?_
  have hn : H s.heap.objs.size = none := I.hok.fresh (Nat.le_refl _)
  refine ⟨.ref s.heap.objs.size, upd H s.heap.objs.size (SetO X.w s.heap.objs.size (fun j => decide (j ∈ ns)) c), I.laid (t' := tk) k (Nat.le_refl _) (setO_new R), rfl, q _ c hn hcn fun L hL => ?_⟩
  obtain ⟨o, es, ep, t, ho, hex, hdt, g, nd, hm2, hb, hf, hn2, hr, hl2⟩ := R
  have z := nodup_le _ L nd fun x hx => hL x (of_decide_eq_true ((hm2 x).mpr hx))
  rw [List.length_map, Array.length_toList, hn2] at z
  exact z
end
end L2

namespace L2
open PySem PySem.Spec PyProof.Rows
/-! ## what is led to -/
inductive Led (rows : List (List Int)) (i : Int) : Int → Prop
  | refl : Led rows i i
  | step {j t q a b : Int} {r : List Int} : Led rows i j → 0 ≤ j → rows[j.toNat]? = some (q :: a :: b :: r) → (t = a ∨ t = b) → Led rows i t
theorem Led.sub {rows : List (List Int)} {i : Int} {S : Int → Prop} (h0 : S i) (hc : ∀ j q a b r, S j → 0 ≤ j → rows[j.toNat]? = some (q :: a :: b :: r) → S a ∧ S b) {j : Int} (h : Led rows i j) : S j := by
  induction h with
  | refl => exact h0
  | step _ h1 h2 h3 ih =>
    obtain ⟨x, y⟩ := hc _ _ _ _ _ ih h1 h2
    rcases h3 with rfl | rfl
    · exact x
    · exact y
theorem GoodW.two {rows : List (List Int)} {e o : Int} (h : GoodW rows e o) {i : Nat} {row : List Int} (hi : rows[i]? = some row) : ∃ q a b r, row = q :: a :: b :: r ∧ 0 ≤ q ∧ q < 48 ∧ (-e ≤ a ∧ a < rows.length ∧ ¬ (0 ≤ a ∧ a ≤ i)) ∧ (-e ≤ b ∧ b < rows.length ∧ ¬ (0 ≤ b ∧ b ≤ i)) := by
  obtain ⟨q, r, rfl, hl, q0, q1, ht⟩ := h.row i row hi
  match r, hl, ht with
  | a :: b :: r, _, ht => exact ⟨q, a, b, r, rfl, q0, q1, ht a List.mem_cons_self, ht b (List.mem_cons_of_mem _ List.mem_cons_self)⟩
theorem Led.bounds {rows : List (List Int)} {e o i : Int} (h : GoodW rows e o) (h1 : -e ≤ i) (h2 : i < rows.length) {j : Int} (hj : Led rows i j) : -e ≤ j ∧ j < rows.length := by
  refine hj.sub (S := fun j => -e ≤ j ∧ j < rows.length) ⟨h1, h2⟩ fun j q a b r _ j0 hr => ?_
  obtain ⟨q', a', b', r', er, _, _, x, y⟩ := h.two hr
  simp only [List.cons.injEq] at er
  obtain ⟨rfl, rfl, rfl, rfl⟩ := er
  exact ⟨⟨x.1, x.2.1⟩, y.1, y.2.1⟩
/-- all positions -/
def posL (e n : Nat) : List Int := (List.range (e + n)).map fun i : Nat => (i : Int) - (e : Int)
theorem mem_pos {e n : Nat} {x : Int} (h1 : -(e : Int) ≤ x) (h2 : x < n) : x ∈ posL e n := by
  unfold posL
  rw [List.mem_map]
  exact ⟨(x + e).toNat, List.mem_range.mpr (by omega), by omega⟩
theorem pos_len (e n : Nat) : (posL e n).length = e + n := by
  unfold posL
  rw [List.length_map, List.length_range]
/-! dicts of True -/
def dTrue (ks : List Int) : List (Key × V) := ks.map fun j => (Sum.inl j, V.bl true)
theorem valV_dTrue (t : Int) : ∀ ks : List Int, valV (dTrue ks) (Sum.inl t) = if t ∈ ks then some (V.bl true) else none
  | [] => by simp [dTrue, valV_nil]
  | k :: ks => by
    have ih := valV_dTrue t ks
    unfold dTrue at ih ⊢
    rw [List.map_cons]
    by_cases e : k = t
    · subst e
      rw [valV_pos rfl, if_pos List.mem_cons_self]
    · rw [valV_neg (fun z => e (Sum.inl.inj z)), ih]
      by_cases m : t ∈ ks
      · rw [if_pos m, if_pos (List.mem_cons_of_mem _ m)]
      · rw [if_neg m, if_neg (fun z => (List.mem_cons.mp z).elim (fun z => e z.symm) m)]
theorem put_dTrue {t : Int} {ks : List Int} (h : t ∉ ks) : putK (dTrue ks) (Sum.inl t) (V.bl true) = dTrue (ks ++ [t]) := by
  rw [putK_new _ (by rw [valV_dTrue, if_neg h])]
  unfold dTrue
  rw [List.map_append]
  rfl
theorem keys_dTrue (ks : List Int) : ((dTrue ks).map fun kv => kV kv.1) = ks.map V.int := by
  unfold dTrue
  rw [List.map_map]
  rfl
/-! [1:3] of a row -/
theorem cut_13 (q a b : Int) (r : List Int) : cutV ((q :: a :: b :: r).map V.int) (some 1) (some 3) = [a, b].map V.int := by
  unfold cutV HT.sIx
  simp only [List.map_cons, List.length_cons]
  rw [if_neg (by decide), if_neg (by decide)]
  have h1 : min (3 : Int).toNat ((r.map V.int).length + 1 + 1 + 1) = 3 := Nat.min_eq_left (by show 3 ≤ _; omega)
  have h2 : min (1 : Int).toNat ((r.map V.int).length + 1 + 1 + 1) = 1 := Nat.min_eq_left (by show 1 ≤ _; omega)
  rw [h1, h2]
  rfl
theorem mid_row {K : PySem.W.Frag} {H : Hp} {x : Addr} {q a b : Int} {r : List Int} {Q : VK} (h : H x = some (.tup ((q :: a :: b :: r).map V.int))) (k : ∀ p, H p = none → Q (.ref p) (upd H p (.tup ([a, b].map V.int)))) : rSlA K (.ref x) (some 1) (some 3) H Q := by
  refine ⟨x, _, rfl, tup_of h, fun e => ?_, fun _ p np => ?_⟩
  · exfalso
    have e := e.1
    unfold HT.sIx at e
    simp only [List.map_cons, List.length_cons] at e
    rw [if_neg (by decide)] at e
    have h2 : min (1 : Int).toNat ((r.map V.int).length + 1 + 1 + 1) = 1 := Nat.min_eq_left (by show 1 ≤ _; omega)
    rw [h2] at e
    cases e
  · rw [cut_13]
    exact k p np
/-! the promises -/
def spLed (K : PySem.W.Frag) (C CN : Addr) : Sp := fun vs H Q E => ∃ (x : Addr) (rows : List (List Int)) (e o z : Int), vs = [.ref x, .int z] ∧ WebAt C H x rows e o ∧ GoodW rows e o ∧ Bd z ∧
  ((-e ≤ z ∧ z < rows.length) → ∀ (H' : Hp) (D : Addr) (l : List Int), Same H H' → H' D = some (.lst (l.map V.int)) → (∀ j, j ∈ l ↔ Led rows z j) → l.Nodup → Q (.ref D) H') ∧
  (¬ (-e ≤ z ∧ z < rows.length) → ∀ d H', H d = none → Same H H' → H' d = some (.xd [("place", .int z)]) → E (.ref CN) (some d) H')
/-- the questions asked from z -/
def IsAsked (rows : List (List Int)) (z : Int) (l : List Int) : Prop := ∀ k, k ∈ l ↔ ∃ (j : Nat) (r : List Int), Led rows z j ∧ rows[j]? = some (k :: r)
def IsReach (rows : List (List Int)) (z : Int) (l : List Int) : Prop := ∀ k, k ∈ l ↔ (0 ≤ k ∧ Led rows z (-1 - k))
def IsReached (rows : List (List Int)) (z : Int) (l : List Int) : Prop := ∀ k, k ∈ l ↔ (0 ≤ k ∧ Led rows z k)
def spAsked (K : PySem.W.Frag) (C CN : Addr) : Sp := fun vs H Q E => ∃ (x : Addr) (rows : List (List Int)) (e o z : Int), vs = [.ref x, .int z] ∧ WebAt C H x rows e o ∧ GoodW rows e o ∧ rows.length ≤ 40 ∧ Bd z ∧
  ((-e ≤ z ∧ z < rows.length) → ∀ (H' : Hp) (t : Addr) (l : List Int), Same H H' → H' t = some (.tup ((norm l).map V.int)) → IsAsked rows z l → Q (.ref t) H') ∧
  (¬ (-e ≤ z ∧ z < rows.length) → ∀ d H', H d = none → Same H H' → H' d = some (.xd [("place", .int z)]) → E (.ref CN) (some d) H')
def spReach (K : PySem.W.Frag) (C CN : Addr) : Sp := fun vs H Q E => ∃ (x : Addr) (rows : List (List Int)) (e o z : Int), vs = [.ref x, .int z] ∧ WebAt C H x rows e o ∧ GoodW rows e o ∧ e ≤ 40 ∧ Bd z ∧
  ((-e ≤ z ∧ z < rows.length) → ∀ (H' : Hp) (t : Addr) (l : List Int), Same H H' → H' t = some (.tup ((norm l).map V.int)) → IsReach rows z l → Q (.ref t) H') ∧
  (¬ (-e ≤ z ∧ z < rows.length) → ∀ d H', H d = none → Same H H' → H' d = some (.xd [("place", .int z)]) → E (.ref CN) (some d) H')
def spReached (C : Addr) : Sp := fun vs H Q _ => ∃ (x : Addr) (rows : List (List Int)) (e o : Int), vs = [.ref x] ∧ WebAt C H x rows e o ∧ GoodW rows e o ∧ rows.length ≤ 40 ∧
  ∀ (H' : Hp) (t : Addr) (l : List Int), Same H H' → H' t = some (.tup ((norm l).map V.int)) → IsReached rows o l → Q (.ref t) H'
def lenD : Option HO → Nat
  | some (.dK kvs) => kvs.length
  | _ => 0
def lenL : Option HO → Nat
  | some (.lst xs) => xs.length
  | _ => 0
end L2

namespace K03
open PySem PySem.Spec PyProof.Rows L2
def topS (i : Nat) : Stmt := PySem.Challenge.pw_steppedtests_k03_asked_reach_reached.main.body.getD i (.Pass ⟨0, 0, 0, 0⟩)
abbrev s_is_question : Stmt := topS 10
abbrev N_is_question : List Str := ["number"]
abbrev P_is_question : List Str := ["number"]
theorem sc_is_question : FnScope N_is_question P_is_question (defScope s_is_question) := ⟨rfl, rfl, rfl, by decide +kernel, rfl, by decide +kernel, by decide +kernel⟩
abbrev s_Web_contains : Stmt := inClass (topS 13) 6
abbrev N_Web_contains : List Str := ["self", "x"]
abbrev P_Web_contains : List Str := ["self", "x"]
theorem sc_Web_contains : FnScope N_Web_contains P_Web_contains (defScope s_Web_contains) := ⟨rfl, rfl, rfl, by decide +kernel, rfl, by decide +kernel, by decide +kernel⟩
abbrev s_Web_len : Stmt := inClass (topS 13) 3
abbrev N_Web_len : List Str := ["self"]
abbrev P_Web_len : List Str := ["self"]
theorem sc_Web_len : FnScope N_Web_len P_Web_len (defScope s_Web_len) := ⟨rfl, rfl, rfl, by decide +kernel, rfl, by decide +kernel, by decide +kernel⟩
abbrev s_Web_first : Stmt := inClass (topS 13) 2
abbrev N_Web_first : List Str := ["self"]
abbrev P_Web_first : List Str := ["self"]
theorem sc_Web_first : FnScope N_Web_first P_Web_first (defScope s_Web_first) := ⟨rfl, rfl, rfl, by decide +kernel, rfl, by decide +kernel, by decide +kernel⟩
abbrev s_Web_can_stand : Stmt := inClass (topS 13) 1
abbrev N_Web_can_stand : List Str := ["self", "k", "node", "target"]
abbrev P_Web_can_stand : List Str := ["self", "k", "node"]
theorem sc_Web_can_stand : FnScope N_Web_can_stand P_Web_can_stand (defScope s_Web_can_stand) := ⟨rfl, rfl, rfl, by decide +kernel, rfl, by decide +kernel, by decide +kernel⟩
abbrev s_asked_twice : Stmt := topS 14
abbrev N_asked_twice : List Str := ["nodes", "masks", "twice", "k", "behind", "target", "own"]
abbrev P_asked_twice : List Str := ["nodes"]
theorem sc_asked_twice : FnScope N_asked_twice P_asked_twice (defScope s_asked_twice) := ⟨rfl, rfl, rfl, by decide +kernel, rfl, by decide +kernel, by decide +kernel⟩
abbrev s_Web_init : Stmt := inClass (topS 13) 0
abbrev N_Web_init : List Str := ["self", "nodes", "ends", "start", "k", "node", "twice"]
abbrev P_Web_init : List Str := ["self", "nodes", "ends", "start"]
theorem sc_Web_init : FnScope N_Web_init P_Web_init (defScope s_Web_init) := ⟨rfl, rfl, rfl, by decide +kernel, rfl, by decide +kernel, by decide +kernel⟩
abbrev s_NoPosition_init : Stmt := inClass (topS 7) 0
abbrev N_NoPosition_init : List Str := ["self", "place"]
abbrev P_NoPosition_init : List Str := ["self", "place"]
theorem sc_NoPosition_init : FnScope N_NoPosition_init P_NoPosition_init (defScope s_NoPosition_init) := ⟨rfl, rfl, rfl, by decide +kernel, rfl, by decide +kernel, by decide +kernel⟩
abbrev s_Web_led_to : Stmt := inClass (topS 13) 11
abbrev N_Web_led_to : List Str := ["self", "position", "found", "waiting", "place", "targets", "target"]
abbrev P_Web_led_to : List Str := ["self", "position"]
theorem sc_Web_led_to : FnScope N_Web_led_to P_Web_led_to (defScope s_Web_led_to) := ⟨rfl, rfl, rfl, by decide +kernel, rfl, by decide +kernel, by decide +kernel⟩
abbrev s_Web_asked : Stmt := inClass (topS 13) 8
abbrev N_Web_asked : List Str := ["self", "position", "place"]
abbrev P_Web_asked : List Str := ["self", "position"]
theorem sc_Web_asked : FnScope N_Web_asked P_Web_asked (defScope s_Web_asked) := ⟨rfl, rfl, rfl, by decide +kernel, rfl, by decide +kernel, by decide +kernel⟩
abbrev s_Web_reach : Stmt := inClass (topS 13) 9
abbrev N_Web_reach : List Str := ["self", "position", "place"]
abbrev P_Web_reach : List Str := ["self", "position"]
theorem sc_Web_reach : FnScope N_Web_reach P_Web_reach (defScope s_Web_reach) := ⟨rfl, rfl, rfl, by decide +kernel, rfl, by decide +kernel, by decide +kernel⟩
abbrev s_Web_reached : Stmt := inClass (topS 13) 10
abbrev N_Web_reached : List Str := ["self", "place"]
abbrev P_Web_reached : List Str := ["self"]
theorem sc_Web_reached : FnScope N_Web_reached P_Web_reached (defScope s_Web_reached) := ⟨rfl, rfl, rfl, by decide +kernel, rfl, by decide +kernel, by decide +kernel⟩
abbrev s_l_pool : Stmt := topS 16
abbrev N_l_pool : List Str := ["_law_script"]
abbrev P_l_pool : List Str := ["_law_script"]
theorem sc_l_pool : FnScope N_l_pool P_l_pool (defScope s_l_pool) := ⟨rfl, rfl, rfl, by decide +kernel, rfl, by decide +kernel, by decide +kernel⟩
abbrev s_l_draw : Stmt := topS 17
abbrev N_l_draw : List Str := ["_law_pool_here", "_law_limit", "_law_cell", "_law_digit", "_law_mixed"]
abbrev P_l_draw : List Str := ["_law_pool_here", "_law_limit"]
theorem sc_l_draw : FnScope N_l_draw P_l_draw (defScope s_l_draw) := ⟨rfl, rfl, rfl, by decide +kernel, rfl, by decide +kernel, by decide +kernel⟩
abbrev s_l_names : Stmt := topS 18
abbrev N_l_names : List Str := ["_law_pool_here", "_law_most", "_law_names_here", "_law_k", "_law_question"]
abbrev P_l_names : List Str := ["_law_pool_here", "_law_most"]
theorem sc_l_names : FnScope N_l_names P_l_names (defScope s_l_names) := ⟨rfl, rfl, rfl, by decide +kernel, rfl, by decide +kernel, by decide +kernel⟩
abbrev s_l_target : Stmt := topS 19
abbrev N_l_target : List Str := ["_law_pool_here", "_law_index", "_law_count", "_law_ends", "_law_wide"]
abbrev P_l_target : List Str := ["_law_pool_here", "_law_index", "_law_count", "_law_ends"]
theorem sc_l_target : FnScope N_l_target P_l_target (defScope s_l_target) := ⟨rfl, rfl, rfl, by decide +kernel, rfl, by decide +kernel, by decide +kernel⟩
abbrev s_l_nodes : Stmt := topS 20
abbrev N_l_nodes : List Str := ["_law_pool_here", "_law_count", "_law_ends", "_law_names_here", "_law_skips", "_law_nodes_here", "_law_below", "_law_k", "_law_index", "_law_width", "_law_targets", "_law_used", "_law_target_here", "_law_free", "_law_question", "_law_at", "_law_name"]
abbrev P_l_nodes : List Str := ["_law_pool_here", "_law_count", "_law_ends", "_law_names_here", "_law_skips"]
theorem sc_l_nodes : FnScope N_l_nodes P_l_nodes (defScope s_l_nodes) := ⟨rfl, rfl, rfl, by decide +kernel, rfl, by decide +kernel, by decide +kernel⟩
abbrev s_l_led : Stmt := topS 21
abbrev N_l_led : List Str := ["_law_nodes_here", "_law_position", "_law_met", "_law_k", "_law_target_here"]
abbrev P_l_led : List Str := ["_law_nodes_here", "_law_position"]
theorem sc_l_led : FnScope N_l_led P_l_led (defScope s_l_led) := ⟨rfl, rfl, rfl, by decide +kernel, rfl, by decide +kernel, by decide +kernel⟩
abbrev s_l_asked : Stmt := topS 22
abbrev N_l_asked : List Str := ["_law_web", "_law_position", "e"]
abbrev P_l_asked : List Str := ["_law_web", "_law_position"]
theorem sc_l_asked : FnScope N_l_asked P_l_asked (defScope s_l_asked) := ⟨rfl, rfl, rfl, by decide +kernel, rfl, by decide +kernel, by decide +kernel⟩
abbrev s_l_reach : Stmt := topS 23
abbrev N_l_reach : List Str := ["_law_web", "_law_position", "e"]
abbrev P_l_reach : List Str := ["_law_web", "_law_position"]
theorem sc_l_reach : FnScope N_l_reach P_l_reach (defScope s_l_reach) := ⟨rfl, rfl, rfl, by decide +kernel, rfl, by decide +kernel, by decide +kernel⟩
abbrev s_law : Stmt := topS 24
abbrev N_law : List Str := ["_law_script", "_law_pool_here", "_law_names_here", "_law_ends", "_law_nodes_here", "_law_origin", "_law_web", "_law_position", "_law_met", "_law_asked_here", "_law_far", "_law_place", "_law_name", "_law_end", "_law_k"]
abbrev P_law : List Str := ["_law_script"]
theorem sc_law : FnScope N_law P_law (defScope s_law) := ⟨rfl, rfl, rfl, by decide +kernel, rfl, by decide +kernel, by decide +kernel⟩
structure Ad where
  c_TestError : Addr
  c_NoPosition : Addr
  c_Web : Addr
  f_is_question : Addr
  d_is_question : FuncData
  f_Web_contains : Addr
  d_Web_contains : FuncData
  f_Web_len : Addr
  d_Web_len : FuncData
  f_Web_first : Addr
  d_Web_first : FuncData
  f_Web_can_stand : Addr
  d_Web_can_stand : FuncData
  f_asked_twice : Addr
  d_asked_twice : FuncData
  f_Web_init : Addr
  d_Web_init : FuncData
  f_NoPosition_init : Addr
  d_NoPosition_init : FuncData
  f_Web_led_to : Addr
  d_Web_led_to : FuncData
  f_Web_asked : Addr
  d_Web_asked : FuncData
  f_Web_reach : Addr
  d_Web_reach : FuncData
  f_Web_reached : Addr
  d_Web_reached : FuncData
  f_l_pool : Addr
  d_l_pool : FuncData
  f_l_draw : Addr
  d_l_draw : FuncData
  f_l_names : Addr
  d_l_names : FuncData
  f_l_target : Addr
  d_l_target : FuncData
  f_l_nodes : Addr
  d_l_nodes : FuncData
  f_l_led : Addr
  d_l_led : FuncData
  f_l_asked : Addr
  d_l_asked : FuncData
  f_l_reach : Addr
  d_l_reach : FuncData
  f_law : Addr
  d_law : FuncData
  ds_Web_init : List Value
  t_QUESTIONS : Tok
  t_MOST_ENDS : Tok
structure Txt (K : PySem.W.Frag) (mg : Str → Option Value) (a : Ad) : Prop where
  g_TestError : mg "TestError" = some (.ref a.c_TestError)
  g_NoPosition : mg "NoPosition" = some (.ref a.c_NoPosition)
  g_Web : mg "Web" = some (.ref a.c_Web)
  cl_Web : Cls K a.c_Web
  mk_Web : Mk K a.c_Web a.f_Web_init
  nA_Web_nodes : NoAttr K a.c_Web "nodes"
  nA_Web_ends : NoAttr K a.c_Web "ends"
  nA_Web_start : NoAttr K a.c_Web "start"
  bi_TestError : BaseI K a.c_TestError
  ox_NoPosition : OexC K a.c_NoPosition
  xf_NoPosition : XfC K a.c_NoPosition
  nf_NoPosition_place : PySem.W.findIn K (.ref a.c_NoPosition) "place" = some none
  te_NoPosition : PySem.W.exmOne K (.ref a.c_NoPosition) (.ref a.c_NoPosition) = some true
  ek_NoPosition : PySem.W.ErrK K a.c_NoPosition
  ii_NoPosition : PySem.W.findIn K (.ref a.c_NoPosition) "__init__" = some (some (.ref a.f_NoPosition_init))
  ti_NoPosition : PySem.W.typeIn K (.ref a.f_NoPosition_init) = some (.type "function")
  kt_NoPosition : PySem.W.kitOne K (.ref a.c_NoPosition) (.ref a.c_TestError) = some true
  F_is_question : Fun K "is_question" "is_question" s_is_question a.f_is_question a.d_is_question
  b_is_question : Binds K a.d_is_question P_is_question []
  k_is_question : PySem.W.keepIn K (.ref a.f_is_question) = true
  g_is_question : mg "is_question" = some (.ref a.f_is_question)
  F_Web_contains : Fun K "__contains__" "Web.__contains__" s_Web_contains a.f_Web_contains a.d_Web_contains
  b_Web_contains : Binds K a.d_Web_contains P_Web_contains []
  k_Web_contains : PySem.W.keepIn K (.ref a.f_Web_contains) = true
  i_Web_contains : PySem.W.isFn K (.ref a.f_Web_contains) = true
  s_Web_contains : PySem.W.findIn K (.ref a.c_Web) "__contains__" = some (some (.ref a.f_Web_contains))
  F_Web_len : Fun K "__len__" "Web.__len__" s_Web_len a.f_Web_len a.d_Web_len
  b_Web_len : Binds K a.d_Web_len P_Web_len []
  k_Web_len : PySem.W.keepIn K (.ref a.f_Web_len) = true
  i_Web_len : PySem.W.isFn K (.ref a.f_Web_len) = true
  s_Web_len : PySem.W.findIn K (.ref a.c_Web) "__len__" = some (some (.ref a.f_Web_len))
  F_Web_first : Fun K "_first" "Web._first" s_Web_first a.f_Web_first a.d_Web_first
  b_Web_first : Binds K a.d_Web_first P_Web_first []
  k_Web_first : PySem.W.keepIn K (.ref a.f_Web_first) = true
  i_Web_first : PySem.W.isFn K (.ref a.f_Web_first) = true
  m_Web_first : Meth K a.c_Web "_first" a.f_Web_first
  F_Web_can_stand : Fun K "_can_stand" "Web._can_stand" s_Web_can_stand a.f_Web_can_stand a.d_Web_can_stand
  b_Web_can_stand : Binds K a.d_Web_can_stand P_Web_can_stand []
  k_Web_can_stand : PySem.W.keepIn K (.ref a.f_Web_can_stand) = true
  i_Web_can_stand : PySem.W.isFn K (.ref a.f_Web_can_stand) = true
  m_Web_can_stand : Meth K a.c_Web "_can_stand" a.f_Web_can_stand
  F_asked_twice : Fun K "_asked_twice" "_asked_twice" s_asked_twice a.f_asked_twice a.d_asked_twice
  b_asked_twice : Binds K a.d_asked_twice P_asked_twice []
  k_asked_twice : PySem.W.keepIn K (.ref a.f_asked_twice) = true
  g_asked_twice : mg "_asked_twice" = some (.ref a.f_asked_twice)
  F_Web_init : Fun K "__init__" "Web.__init__" s_Web_init a.f_Web_init a.d_Web_init
  k_Web_init : PySem.W.keepIn K (.ref a.f_Web_init) = true
  i_Web_init : PySem.W.isFn K (.ref a.f_Web_init) = true
  vd_Web_init : Vals [V.non] a.ds_Web_init
  bd_Web_init : L2.Binds K a.d_Web_init P_Web_init a.ds_Web_init
  kb_Web_init_start : KBn K a.d_Web_init P_Web_init 3 ["start"] (fun us ws => us ++ ws) (fun us ws => us ++ ws)
  F_NoPosition_init : Fun K "__init__" "NoPosition.__init__" s_NoPosition_init a.f_NoPosition_init a.d_NoPosition_init
  b_NoPosition_init : Binds K a.d_NoPosition_init P_NoPosition_init []
  k_NoPosition_init : PySem.W.keepIn K (.ref a.f_NoPosition_init) = true
  i_NoPosition_init : PySem.W.isFn K (.ref a.f_NoPosition_init) = true
  F_Web_led_to : Fun K "_led_to" "Web._led_to" s_Web_led_to a.f_Web_led_to a.d_Web_led_to
  b_Web_led_to : Binds K a.d_Web_led_to P_Web_led_to []
  k_Web_led_to : PySem.W.keepIn K (.ref a.f_Web_led_to) = true
  i_Web_led_to : PySem.W.isFn K (.ref a.f_Web_led_to) = true
  m_Web_led_to : Meth K a.c_Web "_led_to" a.f_Web_led_to
  F_Web_asked : Fun K "asked" "Web.asked" s_Web_asked a.f_Web_asked a.d_Web_asked
  b_Web_asked : Binds K a.d_Web_asked P_Web_asked []
  k_Web_asked : PySem.W.keepIn K (.ref a.f_Web_asked) = true
  i_Web_asked : PySem.W.isFn K (.ref a.f_Web_asked) = true
  m_Web_asked : Meth K a.c_Web "asked" a.f_Web_asked
  F_Web_reach : Fun K "reach" "Web.reach" s_Web_reach a.f_Web_reach a.d_Web_reach
  b_Web_reach : Binds K a.d_Web_reach P_Web_reach []
  k_Web_reach : PySem.W.keepIn K (.ref a.f_Web_reach) = true
  i_Web_reach : PySem.W.isFn K (.ref a.f_Web_reach) = true
  m_Web_reach : Meth K a.c_Web "reach" a.f_Web_reach
  F_Web_reached : Fun K "reached" "Web.reached" s_Web_reached a.f_Web_reached a.d_Web_reached
  b_Web_reached : Binds K a.d_Web_reached P_Web_reached []
  k_Web_reached : PySem.W.keepIn K (.ref a.f_Web_reached) = true
  i_Web_reached : PySem.W.isFn K (.ref a.f_Web_reached) = true
  m_Web_reached : Meth K a.c_Web "reached" a.f_Web_reached
  F_l_pool : Fun K "_law_pool" "_law_pool" s_l_pool a.f_l_pool a.d_l_pool
  b_l_pool : Binds K a.d_l_pool P_l_pool []
  k_l_pool : PySem.W.keepIn K (.ref a.f_l_pool) = true
  g_l_pool : mg "_law_pool" = some (.ref a.f_l_pool)
  F_l_draw : Fun K "_law_draw" "_law_draw" s_l_draw a.f_l_draw a.d_l_draw
  b_l_draw : Binds K a.d_l_draw P_l_draw []
  k_l_draw : PySem.W.keepIn K (.ref a.f_l_draw) = true
  g_l_draw : mg "_law_draw" = some (.ref a.f_l_draw)
  F_l_names : Fun K "_law_names" "_law_names" s_l_names a.f_l_names a.d_l_names
  b_l_names : Binds K a.d_l_names P_l_names []
  k_l_names : PySem.W.keepIn K (.ref a.f_l_names) = true
  g_l_names : mg "_law_names" = some (.ref a.f_l_names)
  F_l_target : Fun K "_law_target" "_law_target" s_l_target a.f_l_target a.d_l_target
  b_l_target : Binds K a.d_l_target P_l_target []
  k_l_target : PySem.W.keepIn K (.ref a.f_l_target) = true
  g_l_target : mg "_law_target" = some (.ref a.f_l_target)
  F_l_nodes : Fun K "_law_nodes" "_law_nodes" s_l_nodes a.f_l_nodes a.d_l_nodes
  b_l_nodes : Binds K a.d_l_nodes P_l_nodes []
  k_l_nodes : PySem.W.keepIn K (.ref a.f_l_nodes) = true
  g_l_nodes : mg "_law_nodes" = some (.ref a.f_l_nodes)
  F_l_led : Fun K "_law_led" "_law_led" s_l_led a.f_l_led a.d_l_led
  b_l_led : Binds K a.d_l_led P_l_led []
  k_l_led : PySem.W.keepIn K (.ref a.f_l_led) = true
  g_l_led : mg "_law_led" = some (.ref a.f_l_led)
  F_l_asked : Fun K "_law_asked" "_law_asked" s_l_asked a.f_l_asked a.d_l_asked
  b_l_asked : Binds K a.d_l_asked P_l_asked []
  k_l_asked : PySem.W.keepIn K (.ref a.f_l_asked) = true
  g_l_asked : mg "_law_asked" = some (.ref a.f_l_asked)
  F_l_reach : Fun K "_law_reach" "_law_reach" s_l_reach a.f_l_reach a.d_l_reach
  b_l_reach : Binds K a.d_l_reach P_l_reach []
  k_l_reach : PySem.W.keepIn K (.ref a.f_l_reach) = true
  g_l_reach : mg "_law_reach" = some (.ref a.f_l_reach)
  F_law : Fun K "law" "law" s_law a.f_law a.d_law
  b_law : Binds K a.d_law P_law []
  k_law : PySem.W.keepIn K (.ref a.f_law) = true
  g_law : mg "law" = some (.ref a.f_law)
  g_QUESTIONS : mg "QUESTIONS" = some (.int 48 a.t_QUESTIONS)
  g_MOST_ENDS : mg "MOST_ENDS" = some (.int 60 a.t_MOST_ENDS)
  z_abs : mg "abs" = none
  z_all : mg "all" = none
  z_enumerate : mg "enumerate" = none
  z_int : mg "int" = none
  z_len : mg "len" = none
  z_list : mg "list" = none
  z_min : mg "min" = none
  z_range : mg "range" = none
  z_reversed : mg "reversed" = none
  z_set : mg "set" = none
  z_sorted : mg "sorted" = none
  z_tuple : mg "tuple" = none
section
variable {P : Program} {w : World} {K : PySem.W.Frag} {mg : Str → Option Value} {base : Heap} {a : Ad}
def spIsQ : Sp := fun vs H Q _ => ∃ n : Int, vs = [.int n] ∧ Q (.bl (decide (0 ≤ n ∧ n < 48))) H
theorem ok_is_question (T : Txt K mg a) : FnOk P w K mg base CX0 1 a.f_is_question a.d_is_question P_is_question spIsQ := by
  refine T.F_is_question.ok sc_is_question (fun vs H Q E h => ?_) (fun cdv A outer s H vs Q E hr h => ?_)
  · obtain ⟨n, rfl, _⟩ := h
    rfl
  · obtain ⟨n, rfl, q⟩ := h
    refine ⟨_, (pss_one (ps_ret (pe_chain op_le op_lt pe_int (pv 0) (pe_glob (v := .int 48) (by rfl) T.g_QUESTIONS ⟨_, rfl⟩)))), ?_⟩
    refine ⟨_, rfl, _, _, rfl, rfl, _, rfl, ?_⟩
    by_cases h0 : (0 : Int) ≤ n
    · rw [decide_eq_true h0]
      refine iteT ⟨_, _, rfl, rfl, ?_⟩
      show Q (.bl (decide (n < 48))) H
      rw [show decide (n < 48) = decide (0 ≤ n ∧ n < 48) by rw [Bool.eq_iff_iff]; simp [h0]]
      exact q
    · rw [decide_eq_false h0]
      refine iteF ?_
      rw [show decide (0 ≤ n ∧ n < 48) = false by simp [h0]] at q
      exact q
theorem ok_Web_contains (T : Txt K mg a) : FnOk P w K mg base CX0 1 a.f_Web_contains a.d_Web_contains P_Web_contains (spIn a.c_Web) := by
  refine T.F_Web_contains.ok sc_Web_contains (fun vs H Q E h => ?_) (fun cdv A outer s H vs Q E hr h => ?_)
  · obtain ⟨x, dx, fs, nt, xs, e, z, rfl, _⟩ := h
    rfl
  · obtain ⟨x, dx, fs, nt, xs, e, z, rfl, hx, he, hn, hnt, k⟩ := h
    refine ⟨_, (pss_one (ps_ret (pe_chain op_le op_lt (pe_un un_neg (pe_fld (pv 0) (by rfl))) (pv 1) (pe_callB call_len_seq (by rfl) T.z_len (by decide +kernel) (pa_cons (pe_fld (pv 0) (by rfl)) pa_nil))))), ?_⟩
    refine ⟨_, rfl, x, _, dx, _, _, rfl, hx, T.cl_Web, T.nA_Web_ends, he, _, rfl, _, rfl, _, _, rfl, rfl, _, rfl, ?_⟩
    by_cases h0 : -e ≤ z
    · rw [decide_eq_true h0]
      refine iteT ⟨_, rfl, x, _, dx, _, _, rfl, hx, T.cl_Web, T.nA_Web_nodes, hn, nt, _, rfl, .inr (tup_of hnt), _, _, rfl, rfl, ?_⟩
      rw [show decide (-e ≤ z ∧ z < (xs.length : Nat)) = decide (z < (xs.length : Nat)) by rw [Bool.eq_iff_iff]; simp [h0]] at k
      exact k
    · rw [decide_eq_false h0]
      refine iteF ?_
      rw [show decide (-e ≤ z ∧ z < (xs.length : Nat)) = false by simp [h0]] at k
      exact k
theorem ok_Web_len (T : Txt K mg a) : FnOk P w K mg base CX0 1 a.f_Web_len a.d_Web_len P_Web_len (spLenW a.c_Web) := by
  refine T.F_Web_len.ok sc_Web_len (fun vs H Q E h => ?_) (fun cdv A outer s H vs Q E hr h => ?_)
  · obtain ⟨x, dx, nt, fs, xs, rfl, _⟩ := h
    rfl
  · obtain ⟨x, dx, nt, fs, xs, rfl, hx, hn, hnt, k⟩ := h
    refine ⟨_, (pss_one (ps_ret (pe_callB call_len_seq (by rfl) T.z_len (by decide +kernel) (pa_cons (pe_fld (pv 0) (by rfl)) pa_nil)))), ?_⟩
    exact ⟨_, rfl, x, _, dx, _, _, rfl, hx, T.cl_Web, T.nA_Web_nodes, hn, nt, _, rfl, .inr (tup_of hnt), k⟩
theorem ok_Web_first (T : Txt K mg a) : FnOk P w K mg base CX0 1 a.f_Web_first a.d_Web_first P_Web_first (spFirst a.c_Web) := by
  refine T.F_Web_first.ok sc_Web_first (fun vs H Q E h => ?_) (fun cdv A outer s H vs Q E hr h => ?_)
  · obtain ⟨x, dx, nt, fs, xs, rfl, _⟩ := h
    rfl
  · obtain ⟨x, dx, nt, fs, xs, rfl, hx, hn, hnt, k⟩ := h
    refine ⟨_, (pss_one (ps_ret (pe_ifExp (pt_truth (pe_fld (pv 0) (by rfl)) (by intro _; rfl)) pe_int (pe_un un_neg pe_int)))), ?_⟩
    refine ⟨_, rfl, x, _, dx, _, _, rfl, hx, T.cl_Web, T.nA_Web_nodes, hn, _, .inr (.inl ⟨xs, tup_of hnt, rfl⟩), ?_⟩
    cases xs with
    | nil => exact iteF ⟨_, rfl, k⟩
    | cons y r => exact iteT k
theorem ok_Web_can_stand (T : Txt K mg a) : FnOk P w K mg base CX0 2 a.f_Web_can_stand a.d_Web_can_stand P_Web_can_stand (spStand a.c_Web) := by
  refine T.F_Web_can_stand.ok sc_Web_can_stand (fun vs H Q E h => ?_) (fun cdv A outer s H vs Q E hr h => ?_)
  · obtain ⟨x, dx, nt, nd, fs, xs, e, k0, row, rfl, _⟩ := h
    rfl
  · obtain ⟨x, dx, nt, nd, fs, xs, e, k0, row, rfl, hx, he, hn, hnt, hnd, ⟨q, r, rfl, hl, q0, q1, ht⟩, k⟩ := h
    refine ⟨_, (pss_cons (ps_if (PW.pt (pw_or (pt_cmpR op_notIn_seq (pe_callB call_len_seq (by rfl) T.z_len (by decide +kernel) (pa_cons (pv 2) pa_nil)) (pe_tup (pa_cons pe_int (pa_cons pe_int pa_nil))) (by with_unfolding_all rfl)) (pw_or1 (pt_not (pt_val (pe_call (ok_is_question T) (hr.mono (by decide)) (by rfl) T.g_is_question T.k_is_question T.b_is_question .nil pass0 (pa_cons (pe_ix ix_tup (pv 2) pe_int (by intro _ _; rfl)) pa_nil)))))))
    (pss_one (ps_ret pe_bl))
    pss_nil)
  (pss_one (ps_ret (pe_callB (cr_all rfl) (by rfl) T.z_all (by decide +kernel) (pa_cons (pe_lc (own := [("target", 3)]) (g := gName 3) (tt := tYes) (te := (tAndV (tOp (rOwnIn a.c_Web (spIn a.c_Web) E0 false) (tVar 3) (tVar 0)) (tNotV (tChain (rI0 fun i j => .bl (decide (i ≤ j))) (rI0 fun i j => .bl (decide (i ≤ j))) (tC (.int 0)) (tVar 3) (tVar 1))))) rfl sc_Web_can_stand.nd (pi_tup (pe_slice sl_tupA (pv 2) (po_some pe_int) po_none)) (blkOk_by (N := N_Web_can_stand) (sc := defScope s_Web_can_stand) (by decide +kernel)) (fun _ _ _ _ _ => pg_name (i := 3) sc_Web_can_stand.nd rfl (Or.inl rfl)) (fun _ _ _ _ _ => pts_nil) (fun _ _ _ _ _ => by exact (pe_and (pe_cmpR (in_own (ok_Web_contains T) (hr.mono (by decide)) T.s_Web_contains T.i_Web_contains T.b_Web_contains pass0) (pv 3) (pv 0) (by with_unfolding_all rfl)) (pe_one (pe_not (pe_chain op_le op_le pe_int (pv 3) (pv 1))))))) pa_nil))))), ?_⟩
    refine ⟨_, rfl, nd, _, rfl, .inr (tup_of hnd), by show 2 ≤ sizeLine; decide, fun t nt2 => ?_⟩
    have e1 := same_upd nt2 (o := .tup [.int 3, .int 4])
    have hlen : (((q :: r).map V.int).length : Int) ∈ [3, 4] := by
      rw [List.length_map, List.length_cons]
      rcases hl with hl | hl <;> rw [hl] <;> decide
    refine in_k (neg := true) (ns := [3, 4]) (.inr (tup_of upd_same)) ⟨_, rfl, ?_⟩
    rw [decide_eq_true hlen]
    refine iteF ?_
    refine ⟨_, rfl, nd, _, 0, _, rfl, rfl, tup_of (e1 _ _ hnd), atI0, q, rfl, ?_⟩
    rw [decide_eq_true ⟨q0, q1⟩]
    refine ⟨_, rfl, iteF ?_⟩
    refine ⟨_, rfl, _, rfl, ?_⟩
    unfold tNoPart
    refine rest_row (K := K) (e1 _ _ hnd) ?_
    intro p np
    have e2 := e1.trans (same_upd np (o := .tup (r.map V.int)))
    refine ⟨p, rfl, ⟨_, tup_of upd_same⟩, fun D nD => ?_⟩
    have e3 := e2.trans (same_upd nD (o := .lst []))
    refine lc_tup (K := K) (a := p) (xs := r.map V.int) (fun i H1 => Same (upd (upd H t (.tup [.int 3, .int 4])) p (.tup (r.map V.int))) H1 ∧ H1 D = some (.lst ((List.replicate i true).map V.bl))) ⟨same_upd nD, upd_same⟩ (fun i H1 _ h => h.1.seqT (tup_of upd_same)) (fun i v H1 hi h => ?_) (fun H1 h => ?_)
    · obtain ⟨z, hz, rfl⟩ := get_map_int hi
      obtain ⟨f1, h1⟩ := h
      obtain ⟨z0, z1, z2⟩ := ht z (List.mem_of_getElem? hz)
      have f2 := e2.trans f1
      refine ⟨rfl, tyes ?_⟩
      refine ⟨_, rfl, _, rfl, x, dx, _, rfl, f2 _ _ hx, x, dx, fs, nt, xs, e, z, rfl, f2 _ _ hx, he, hn, f2 _ _ hnt, _, rfl, _, rfl, ?_⟩
      rw [decide_eq_true ⟨z0, z1⟩]
      refine iteT ?_
      have last : ∃ acc, H1 D = some (.lst acc) ∧ acc.length < sizeLine ∧ (Same (upd (upd H t (.tup [.int 3, .int 4])) p (.tup (r.map V.int))) (upd H1 D (.lst (acc ++ [V.bl true]))) ∧ upd H1 D (.lst (acc ++ [V.bl true])) D = some (.lst ((List.replicate (i + 1) true).map V.bl))) := by
        refine ⟨_, h1, ?_, f1.mut nD, ?_⟩
        · rw [List.length_map, List.length_replicate, sizeLine_eq]
          have := (List.getElem?_eq_some_iff.mp hz).1
          omega
        · rw [upd_same, List.replicate_succ', List.map_append]
          rfl
      refine ⟨_, rfl, _, _, rfl, rfl, _, rfl, ?_⟩
      by_cases g0 : (0 : Int) ≤ z
      · have g1 : ¬ z ≤ (k0 : Int) := fun g1 => z2 ⟨g0, g1⟩
        rw [decide_eq_true g0]
        refine iteT ⟨_, rfl, _, _, rfl, rfl, _, rfl, ?_⟩
        rw [decide_eq_false g1]
        exact last
      · rw [decide_eq_false g0]
        exact iteF ⟨_, rfl, last⟩
    · obtain ⟨f1, h1⟩ := h
      refine ⟨D, _, rfl, lst_of h1, ?_⟩
      rw [show (List.replicate ((r.map V.int).length) true).all id = true by rw [List.all_eq_true]; intro y hy; rw [List.eq_of_mem_replicate hy]; rfl]
      exact k H1 (e2.trans f1)
theorem ok_asked_twice (T : Txt K mg a) : FnOk P w K mg base CX0 1 a.f_asked_twice a.d_asked_twice P_asked_twice spTwice := by
  refine T.F_asked_twice.ok sc_asked_twice (fun vs H Q E h => ?_) (fun cdv A outer s H vs Q E hr h => ?_)
  · obtain ⟨nt, as, rows, e, rfl, _⟩ := h
    rfl
  · obtain ⟨nt, as, rows, e, rfl, hnt, hrows, hlen, hrow, ⟨B, hB⟩, k⟩ := h
    refine ⟨_, (Evl.pss_cut (ps_set (i := 1) sc_asked_twice.nd rfl (Or.inl rfl) (pe_op op_rep (pe_lst (pa_cons pe_int pa_nil)) (pe_callB call_len_seq (by rfl) T.z_len (by decide +kernel) (pa_cons (pv 0) pa_nil))))
  (Evl.pss_cut (ps_set (i := 2) sc_asked_twice.nd rfl (Or.inl rfl) pe_non)
  (Evl.pss_cut (ps_for PassesOwn.never rfl (pi_revR (by rfl) T.z_reversed (prg_1 (by rfl) T.z_range (pe_callB call_len_seq (by rfl) T.z_len (by decide +kernel) (pa_cons (pv 0) pa_nil)))) (pg_name (i := 3) sc_asked_twice.nd rfl (Or.inl rfl))
    (Evl.pss_cut (ps_set (i := 4) sc_asked_twice.nd rfl (Or.inl rfl) pe_int)
  (Evl.pss_cut (ps_for PassesOwn.never rfl (pi_tup (pe_slice sl_tupA (pe_ix ix_tup (pv 0) (pv 3) (by intro _ _; rfl)) (po_some pe_int) po_none)) (pg_name (i := 5) sc_asked_twice.nd rfl (Or.inl rfl))
    (pss_one (ps_if (pt_cmpR op_ge (pv 5) pe_int (nomark _))
    (pss_one (ps_set (i := 4) sc_asked_twice.nd rfl (Or.inl rfl) (pe_op op_or (pv 4) (pe_ix ix_list (pv 1) (pv 5) (by intro _ _; rfl)))))
    pss_nil)))
  (Evl.pss_cut (ps_set (i := 6) sc_asked_twice.nd rfl (Or.inl rfl) (pe_op op_shl pe_int (pe_ix ix_tup (pe_ix ix_tup (pv 0) (pv 3) (by intro _ _; rfl)) pe_int (by intro _ _; rfl))))
  (Evl.pss_cut (ps_if (pt_truth (pe_op op_and (pv 4) (pv 6)) (by intro _; rfl))
    (pss_one (ps_set (i := 2) sc_asked_twice.nd rfl (Or.inl rfl) (pv 3)))
    pss_nil)
  (pss_one (ps_asg (pe_op op_or (pv 4) (pv 6)) (pg_sub (pv 1) (pv 3) set_list))))))))
  (pss_one (ps_ret (pv 2)))))), ?_⟩
    have elen : (as.map V.ref).length = rows.length := by rw [List.length_map, hrows.1]
    refine ⟨fun σ H1 => ∃ M, σ = [some (.ref nt), some (.ref M), none, none, none, none, none] ∧ Same H H1 ∧ H M = none ∧ H1 M = some (.lst ((List.replicate rows.length 0).map natV)), ?_, ?_⟩
    · refine ⟨by show 1 ≤ sizeLine; decide, fun q nq => ?_⟩
      have e1 := same_upd nq (o := .lst [.int 0])
      refine ⟨_, rfl, nt, _, rfl, .inr (tup_of (e1 _ _ hnt)), q, _, _, rfl, rfl, upd_same, by omega, by rw [elen]; omega, ?_, fun M nM => ?_⟩
      · rw [elen, Int.toNat_natCast, sizeLine_eq]
        show 1 * _ ≤ _
        omega
      · refine ⟨M, rfl, e1.trans (same_upd nM), e1.free nM, ?_⟩
        rw [upd_same, elen, Int.toNat_natCast, List.flatten_replicate_singleton, List.map_replicate]
        rfl
    rintro σ H1 ⟨M, rfl, e1, nM, hM⟩
    refine ⟨fun σ H2 => σ = [some (.ref nt), some (.ref M), some .non, none, none, none, none] ∧ H2 = H1, ⟨rfl, rfl⟩, ?_⟩
    rintro σ H2 ⟨rfl, rfl⟩
    refine ⟨fun σ H3 => ∃ v3 v4 v5 v6, σ = [some (.ref nt), some (.ref M), some .non, v3, v4, v5, v6] ∧ Same H H3, ?_, ?_⟩
    · refine ⟨_, rfl, nt, _, rfl, .inr (tup_of (e1 _ _ hnt)), _, rfl, by decide, by decide, by omega, by rw [elen]; omega, ?_⟩
      rw [elen]
      have eN : ((rows.length : Int) - 0).toNat = rows.length := by omega
      rw [eN]
      refine for_rangeC (lo := 0 + (rows.length : Int) - 1) (c := -1) (n := rows.length) (fun i σ H3 => ∃ v3 v4 v5 v6, ∃ ms : List Nat, σ = [some (.ref nt), some (.ref M), some .non, v3, v4, v5, v6] ∧ Same H H3 ∧ H3 M = some (.lst (ms.map natV)) ∧ ms.length = rows.length ∧ ∀ j m, rows.length - i ≤ j → ms[j]? = some m → MaskOk B j m)
        ⟨_, _, _, _, _, rfl, e1, hM, List.length_replicate, fun j m h1 h2 => ?_⟩ ?_ (fun σ H3 ⟨v3, v4, v5, v6, _, h, e, _⟩ => ⟨v3, v4, v5, v6, h, e⟩)
      · have := (List.getElem?_eq_some_iff.mp h2).1
        rw [List.length_replicate] at this
        omega
      · rintro i σ H3 hi ⟨v3, v4, v5, v6, ms, rfl, e3, hM3, hml, hms⟩
        obtain ⟨j, hj⟩ : ∃ j : Nat, rows.length = j + i + 1 := ⟨rows.length - i - 1, by omega⟩
        rw [show 0 + (rows.length : Int) - 1 + (i : Int) * -1 = (j : Int) by omega]
        have hjn : j < rows.length := by omega
        obtain ⟨aj, row, haj, hrj, hrw⟩ := rows_get hrows hjn
        obtain ⟨q, r, rfl, hl, q0, q1, ht⟩ := hrow j row hrj
        obtain ⟨hq, hcert⟩ := hB j q r hrj
        have hnt3 := e3 _ _ hnt
        have hrw3 := e3 _ _ hrw
        have haj3 : (as.map V.ref)[j]? = some (.ref aj) := by rw [List.getElem?_map, haj]; rfl
        -- behind = 0
        refine ⟨fun σ H4 => σ = [some (.ref nt), some (.ref M), some .non, some (.int j), some (.int 0), v5, v6] ∧ H4 = H3, ⟨rfl, rfl⟩, ?_⟩
        rintro σ H4 ⟨rfl, rfl⟩
        -- behind
        refine ⟨fun σ H5 => ∃ (b : Nat) (v5 : Option V), σ = [some (.ref nt), some (.ref M), some .non, some (.int j), some (.int b), v5, v6] ∧ Same H4 H5 ∧ ∀ z : Nat, b.testBit z = true → ∃ t ∈ r, 0 ≤ t ∧ B t.toNat z, ?_, ?_⟩
        · refine ⟨_, rfl, _, rfl, nt, _, _, _, rfl, rfl, tup_of hnt3, at_tup haj3, _, rfl, ?_⟩
          unfold tNoPart
          refine rest_row (K := K) hrw3 ?_
          intro p np
          have e5 := same_upd np (o := .tup (r.map V.int))
          refine ⟨p, rfl, ⟨_, tup_of upd_same⟩, for_tup (K := K) (a := p) (xs := r.map V.int) (fun i2 σ H5 => ∃ (b : Nat) (v5 : Option V), σ = [some (.ref nt), some (.ref M), some .non, some (.int j), some (.int b), v5, v6] ∧ Same (upd H4 p (.tup (r.map V.int))) H5 ∧ ∀ z : Nat, b.testBit z = true → ∃ t ∈ r.take i2, 0 ≤ t ∧ B t.toNat z)
            ⟨0, _, rfl, Same.refl _, fun z h => by rw [Nat.zero_testBit] at h; cases h⟩ (fun i2 σ H5 _ ⟨_, _, _, e, _⟩ => e.seqT (tup_of upd_same)) ?_ ?_⟩
          · rintro i2 y σ H5 hi2 ⟨b, v5, rfl, e6, hb⟩
            obtain ⟨t, htt, rfl⟩ := get_map_int hi2
            obtain ⟨t1, t2, t3⟩ := ht t (List.mem_of_getElem? htt)
            refine ⟨_, rfl, _, _, rfl, rfl, _, rfl, ite2 (fun g => ?_) (fun g => ?_)⟩
            · have g : 0 ≤ t := of_decide_eq_true g
              obtain ⟨u, rfl⟩ : ∃ u : Nat, t = (u : Int) := ⟨t.toNat, by omega⟩
              have hu : u < ms.length := by omega
              have hmu : ms[u]? = some ms[u] := List.getElem?_eq_getElem hu
              have hMu := hms u _ (by omega) hmu
              have hM5 := (e5.trans e6) _ _ hM3
              refine ⟨_, rfl, _, rfl, _, rfl, M, _, _, _, rfl, rfl, lst_of hM5, atI_nat (get_natV hmu), _, _, rfl, rfl, ?_⟩
              refine ⟨b ||| ms[u], some (.int (u : Int)), by show [_, _, _, _, some (V.int (Builtin.bitOr (b : Int) ((ms[u] : Nat) : Int))), _, _] = _; rw [or_nat], e6, fun z hz => ?_⟩
              rw [Nat.testBit_or, Bool.or_eq_true] at hz
              rw [take_get htt]
              rcases hz with hz | hz
              · obtain ⟨t', m', h'⟩ := hb z hz
                exact ⟨t', List.mem_append.mpr (.inl m'), h'⟩
              · exact ⟨_, List.mem_append.mpr (.inr (List.mem_singleton.mpr rfl)), g, hMu z hz⟩
            · refine ⟨b, _, rfl, e6, fun z hz => ?_⟩
              obtain ⟨t', m', h'⟩ := hb z hz
              rw [take_get htt]
              exact ⟨t', List.mem_append.mpr (.inl m'), h'⟩
          · rintro σ H5 ⟨b, v5, rfl, e6, hb⟩
            rw [List.length_map, List.take_length] at hb
            exact ⟨b, v5, rfl, e5.trans e6, hb⟩
        rintro σ H5 ⟨b, v5, rfl, e5, hb⟩
        have hnt5 := e5 _ _ hnt3
        have hrw5 := e5 _ _ hrw3
        have hM5 := e5 _ _ hM3
        obtain ⟨qn, rfl⟩ : ∃ qn : Nat, q = (qn : Int) := ⟨q.toNat, by omega⟩
        have nb : b.testBit qn = false := by
          cases hb2 : b.testBit qn with
          | false => rfl
          | true =>
            obtain ⟨t, m, t0, ht2⟩ := hb qn hb2
            exact absurd ht2 (hcert t m t0).1
        -- own
        refine ⟨fun σ H6 => σ = [some (.ref nt), some (.ref M), some .non, some (.int j), some (.int b), v5, some (.int ((2 ^ qn : Nat) : Int))] ∧ H6 = H5, ?_, ?_⟩
        · refine ⟨_, rfl, _, rfl, nt, _, _, _, rfl, rfl, tup_of hnt5, at_tup haj3, aj, _, 0, _, rfl, rfl, tup_of hrw5, atI0, 1, (qn : Int), rfl, rfl, ⟨by omega, by omega, by decide⟩, ?_, rfl⟩
          show [_, _, _, _, _, _, some (V.int (1 * 2 ^ (qn : Int).toNat))] = _
          rw [show (1 : Int) * 2 ^ (qn : Int).toNat = ((2 ^ qn : Nat) : Int) by rw [Int.toNat_natCast, Int.one_mul, Int.natCast_pow]; rfl]
        rintro σ H6 ⟨rfl, rfl⟩
        refine ⟨fun σ H7 => σ = [some (.ref nt), some (.ref M), some .non, some (.int j), some (.int b), v5, some (.int ((2 ^ qn : Nat) : Int))] ∧ H7 = H6, ?_, ?_⟩
        · refine ⟨_, rfl, _, rfl, _, _, rfl, rfl, _, rfl, ?_⟩
          rw [and_bit nb]
          exact iteF ⟨rfl, rfl⟩
        rintro σ H7 ⟨rfl, rfl⟩
        have hjm : j < ms.length := by omega
        refine ⟨_, rfl, _, rfl, _, _, rfl, rfl, _, rfl, _, rfl, M, _, (j : Int), j, rfl, rfl, hM5, ?_, ?_⟩
        · unfold ixN
          rw [if_pos (by omega), if_pos (by rw [List.length_map]; omega), Int.toNat_natCast]
        · refine ⟨_, _, _, _, ms.set j (b ||| 2 ^ qn), rfl, (e3.trans e5).mut nM, ?_, by rw [List.length_set]; exact hml, fun u m hu hm => ?_⟩
          · have ev : V.int (Builtin.bitOr (b : Int) ((2 ^ qn : Nat) : Int)) = natV (b ||| 2 ^ qn) := by rw [or_nat]; rfl
            rw [upd_same, List.map_set]
            exact congrArg (fun v => some (HO.lst ((ms.map natV).set j v))) ev
          · by_cases huj : j = u
            · subst huj
              rw [List.getElem?_set_self hjm] at hm
              obtain rfl := Option.some.inj hm
              intro z hz
              rw [Nat.testBit_or, Bool.or_eq_true] at hz
              rcases hz with hz | hz
              · obtain ⟨t, m, t0, ht2⟩ := hb z hz
                exact (hcert t m t0).2 _ ht2
              · rw [Nat.testBit_two_pow, decide_eq_true_eq] at hz
                subst hz
                exact hq
            · rw [List.getElem?_set_ne huj] at hm
              exact hms u m (by omega) hm
    · rintro σ H3 ⟨v3, v4, v5, v6, rfl, e3⟩
      exact ⟨_, rfl, k H3 e3⟩
theorem ok_Web_init (T : Txt K mg a) : FnOk P w K mg base CX0 3 a.f_Web_init a.d_Web_init P_Web_init (spWebInit K a.c_Web) := by
  refine T.F_Web_init.ok sc_Web_init (fun vs H Q E h => ?_) (fun cdv A outer s H vs Q E hr h => ?_)
  · obtain ⟨x, dx, q, as, rows, e, o, v, rfl, _⟩ := h
    rfl
  · obtain ⟨x, dx, q, as, rows, e, o, v, rfl, hx, hq, hal, hrow, G, hv, k⟩ := h
    refine ⟨_, (Evl.pss_cut (ps_if (pt_not (pt_chain op_le op_le pe_int (pv 2) (pe_glob (v := .int 60) (by rfl) T.g_MOST_ENDS ⟨_, rfl⟩)))
    (pss_one ps_never)
    pss_nil)
  (Evl.pss_cut (ps_fld (pv 0) (pe_callTy call_tuple_of (by rfl) T.z_tuple (by decide +kernel) (pa_cons (pe_lc (own := [("node", 5)]) (g := gName 5) (tt := tYes) (te := (tCB (fun xs H Q => ∃ p ys, xs = [.ref p] ∧ ((SqL K H p ys ∧ ∀ l, H l = none → Q (.ref l) (upd H l (.tup ys))) ∨ (SqT K H p ys ∧ Q (.ref p) H))) (tCons (tVar 5) tNil))) rfl sc_Web_init.nd (pi_list (pv 1)) (blkOk_by (N := N_Web_init) (sc := defScope s_Web_init) (by decide +kernel)) (fun _ _ _ _ _ => pg_name (i := 5) sc_Web_init.nd rfl (Or.inl rfl)) (fun _ _ _ _ _ => pts_nil) (fun _ _ _ _ _ => by exact (pe_callTy call_tuple_of (by rfl) T.z_tuple (by decide +kernel) (pa_cons (pv 5) pa_nil)))) pa_nil)) rfl)
  (Evl.pss_cut (ps_fld (pv 0) (pv 2) rfl)
  (Evl.pss_cut (ps_for PassesOwn.never rfl (pi_enumT (by rfl) T.z_enumerate (pa_cons (pe_fld (pv 0) (by rfl)) pa_nil)) (pg_tup rfl (pgs_cons (pg_name (i := 4) sc_Web_init.nd rfl (Or.inl rfl)) (pgs_cons (pg_name (i := 5) sc_Web_init.nd rfl (Or.inl rfl)) pgs_nil)))
    (pss_one (ps_if (pt_not (pt_val (pe_meth (pv 0) T.cl_Web T.m_Web_can_stand (ok_Web_can_stand T) (hr.mono (by decide)) T.b_Web_can_stand .nil pass0 (pa_cons (pv 4) (pa_cons (pv 5) pa_nil)))))
    (pss_one ps_never)
    pss_nil)))
  (Evl.pss_cut (ps_fld (pv 0) (pe_ifExp (pt_cmpR op_isN (pv 3) pe_non (nomark _)) (pe_meth0 (pv 0) T.cl_Web T.m_Web_first (ok_Web_first T) (hr.mono (by decide)) T.b_Web_first .nil pass0) (pv 3)) rfl)
  (Evl.pss_cut (ps_if (pt_cmpR (notIn_own (ok_Web_contains T) (hr.mono (by decide)) T.s_Web_contains T.i_Web_contains T.b_Web_contains pass0) (pe_fld (pv 0) (by rfl)) (pv 0) (by with_unfolding_all rfl))
    (pss_one ps_never)
    pss_nil)
  (Evl.pss_cut (ps_set (i := 6) sc_Web_init.nd rfl (Or.inl rfl) (pe_call (ok_asked_twice T) (hr.mono (by decide)) (by rfl) T.g_asked_twice T.k_asked_twice T.b_asked_twice .nil pass0 (pa_cons (pe_fld (pv 0) (by rfl)) pa_nil)))
  (pss_one (ps_if (pt_cmpR op_notN (pv 6) pe_non (nomark _))
    (pss_one ps_never)
    pss_nil))))))))), ?_⟩
    have glen := G.len
    -- the ends
    refine ⟨fun σ H1 => σ = [some (.ref x), some (.ref q), some (.int e), some v, none, none, none] ∧ H1 = H, ?_, ?_⟩
    · refine ⟨_, rfl, _, _, rfl, rfl, _, rfl, ?_⟩
      rw [decide_eq_true G.e1]
      refine iteT ⟨_, _, rfl, rfl, _, rfl, ?_⟩
      rw [decide_eq_true G.e2]
      exact iteF ⟨rfl, rfl⟩
    rintro σ H1 ⟨rfl, rfl⟩
    -- the nodes
    refine ⟨fun σ H2 => ∃ nt bs, σ = [some (.ref x), some (.ref q), some (.int e), some v, none, none, none] ∧ H2 x = some (.ins a.c_Web dx [("nodes", .ref nt)]) ∧ H2 nt = some (.tup (bs.map V.ref)) ∧ RowsAt H2 bs rows ∧ ∀ b u, b ≠ x → H1 b = some u → H2 b = some u, ?_, ?_⟩
    · refine ⟨_, rfl, q, rfl, ⟨_, hq⟩, fun D nD => ?_⟩
      refine lc_list (K := K) (a := q) (xs := as.map V.ref) (fun i H2 => Same H1 H2 ∧ ∃ bs : List Addr, bs.length = i ∧ H2 D = some (.lst (bs.map V.ref)) ∧ ∀ (j : Nat) b row, bs[j]? = some b → rows[j]? = some row → H2 b = some (.tup (row.map V.int))) ⟨same_upd nD, [], rfl, upd_same, fun j b row h => by simp at h⟩
        (fun i H2 _ h => by
          rcases hq with (h1 | ⟨u, h1⟩) | h1
          · exact .inl (.inl (h.1 _ _ h1))
          · exact .inl (.inr ⟨u, h.1 _ _ h1⟩)
          · exact .inr h1) (fun i y H2 hi h => ?_) (fun H2 h => ?_)
      · obtain ⟨e2, bs, hbl, hD, hbs⟩ := h
        obtain ⟨ai, hai, rfl⟩ : ∃ ai, as[i]? = some ai ∧ y = .ref ai := by
          rw [List.getElem?_map] at hi
          cases hh : as[i]? with
          | none => rw [hh] at hi; cases hi
          | some z => rw [hh] at hi; exact ⟨z, rfl, (Option.some.inj hi).symm⟩
        have hil : i < rows.length := by rw [← hal]; exact (List.getElem?_eq_some_iff.mp hai).1
        have hri : rows[i]? = some rows[i] := List.getElem?_eq_getElem hil
        have hin := (hrow i ai _ hai hri).same e2
        have fin : ∀ (b : Addr) (H3 : Hp), Same H2 H3 → H3 b = some (.tup ((rows[i]).map V.int)) → ∃ acc, H3 D = some (.lst acc) ∧ acc.length < sizeLine ∧ (Same H1 (upd H3 D (.lst (acc ++ [V.ref b]))) ∧ ∃ bs : List Addr, bs.length = i + 1 ∧ upd H3 D (.lst (acc ++ [V.ref b])) D = some (.lst (bs.map V.ref)) ∧ ∀ (j : Nat) b' row, bs[j]? = some b' → rows[j]? = some row → upd H3 D (.lst (acc ++ [V.ref b])) b' = some (.tup (row.map V.int))) := by
          intro b H3 e3 hb
          have hD3 := e3 _ _ hD
          have nDb : ∀ b' (zs : List V), H3 b' = some (.tup zs) → b' ≠ D := fun b' zs h => ne_of h hD3 (by intro z; cases z)
          refine ⟨_, hD3, by rw [List.length_map, sizeLine_eq]; omega, (e2.trans e3).mut nD, bs ++ [b], by rw [List.length_append, hbl]; rfl, by rw [upd_same, List.map_append]; rfl, fun j b' row h1 h2 => ?_⟩
          by_cases hj : j < bs.length
          · rw [List.getElem?_append_left hj] at h1
            have := e3 _ _ (hbs j b' row h1 h2)
            rw [upd_ne (nDb _ _ this)]
            exact this
          · rw [List.getElem?_append_right (by omega)] at h1
            have hj0 : j - bs.length = 0 := by
              have := (List.getElem?_eq_some_iff.mp h1).1
              rw [List.length_singleton] at this
              omega
            rw [hj0] at h1
            obtain rfl : b = b' := Option.some.inj h1
            have ej : j = i := by omega
            subst ej
            rw [hri] at h2
            obtain rfl := Option.some.inj h2
            rw [upd_ne (nDb _ _ hb)]
            exact hb
        refine ⟨rfl, tyes ?_⟩
        rcases hin with hin | hin
        · exact ⟨_, rfl, ai, _, rfl, .inr ⟨tup_of hin, fin ai H2 (Same.refl _) hin⟩⟩
        · exact ⟨_, rfl, ai, _, rfl, .inl ⟨lst_of hin, fun b nb => fin b _ (same_upd nb) upd_same⟩⟩
      · obtain ⟨e2, bs, hbl, hD, hbs⟩ := h
        refine ⟨D, _, rfl, .inl ⟨lst_of hD, fun nt nnt => ?_⟩⟩
        have e3 := e2.trans (same_upd nnt (o := .tup (bs.map V.ref)))
        have hx3 := e3 _ _ hx
        refine ⟨_, rfl, x, _, dx, [], rfl, hx3, T.cl_Web, T.nA_Web_nodes, by decide, ?_⟩
        have nxt : nt ≠ x := fun z => by
          subst z
          rw [e2 _ _ hx] at nnt
          cases nnt
        refine ⟨nt, bs, rfl, by rw [upd_same, put1], by rw [upd_ne nxt, upd_same], ⟨by rw [hbl, List.length_map]; exact hal, fun j b row h1 h2 => ?_⟩, fun b u nb hb => by rw [upd_ne nb]; exact e3 _ _ hb⟩
        have hb := hbs j b row h1 h2
        rw [upd_ne (ne_of ((same_upd nnt) _ _ hb) hx3 (by intro z; cases z))]
        exact (same_upd nnt) _ _ hb
    rintro σ H2 ⟨nt, bs, rfl, hx2, hnt2, hbs2, k2⟩
    have nbx : ∀ {H : Hp} {fs : List (Str × V)}, H x = some (.ins a.c_Web dx fs) → ∀ {b : Addr} {zs : List V}, H b = some (.tup zs) → b ≠ x := fun hx b zs h => ne_of h hx (by intro z; cases z)
    -- the ends are kept
    refine ⟨fun σ H3 => σ = [some (.ref x), some (.ref q), some (.int e), some v, none, none, none] ∧ H3 x = some (.ins a.c_Web dx [("nodes", .ref nt), ("ends", .int e)]) ∧ H3 nt = some (.tup (bs.map V.ref)) ∧ RowsAt H3 bs rows ∧ ∀ b u, b ≠ x → H1 b = some u → H3 b = some u, ?_, ?_⟩
    · refine ⟨_, rfl, _, rfl, x, _, dx, _, rfl, hx2, T.cl_Web, T.nA_Web_ends, by show 1 < 1000; decide, rfl, by rw [upd_same, put2], by rw [upd_ne (nbx hx2 hnt2)]; exact hnt2, ⟨hbs2.1, fun j b row h1 h2 => ?_⟩, fun b u nb hb => by rw [upd_ne nb]; exact k2 b u nb hb⟩
      rw [upd_ne (nbx hx2 (hbs2.2 j b row h1 h2))]
      exact hbs2.2 j b row h1 h2
    rintro σ H3 ⟨rfl, hx3, hnt3, hbs3, k3⟩
    -- each can stand
    refine ⟨fun σ H4 => ∃ v4 v5, σ = [some (.ref x), some (.ref q), some (.int e), some v, v4, v5, none] ∧ Same H3 H4, ?_, ?_⟩
    · refine ⟨_, rfl, x, _, dx, _, _, rfl, hx3, T.cl_Web, T.nA_Web_nodes, rfl, nt, _, rfl, tup_of hnt3, ?_⟩
      refine for_enumT (K := K) (a := nt) (xs := bs.map V.ref) (fun i σ H4 => ∃ v4 v5, σ = [some (.ref x), some (.ref q), some (.int e), some v, v4, v5, none] ∧ Same H3 H4) ⟨_, _, rfl, Same.refl _⟩ (fun i σ H4 _ ⟨_, _, _, e⟩ => tup_of (e _ _ hnt3)) ?_ (fun σ H4 h => h)
      rintro i y σ H4 t hi ⟨v4, v5, rfl, e4⟩ nt4
      have e5 := e4.trans (same_upd nt4 (o := .tup [.int (i : Nat), y]))
      obtain ⟨bi, hbi, rfl⟩ : ∃ bi, bs[i]? = some bi ∧ y = .ref bi := by
        rw [List.getElem?_map] at hi
        cases hh : bs[i]? with
        | none => rw [hh] at hi; cases hi
        | some z => rw [hh] at hi; exact ⟨z, rfl, (Option.some.inj hi).symm⟩
      have hil : i < rows.length := by rw [← hbs3.1]; exact (List.getElem?_eq_some_iff.mp hbi).1
      have hri : rows[i]? = some rows[i] := List.getElem?_eq_getElem hil
      have hok := G.row i _ hri
      have hbt := e5 _ _ (hbs3.2 i bi _ hbi hri)
      refine ⟨t, _, rfl, tup_of upd_same, rfl, _, _, rfl, _, _, rfl, rfl, ?_⟩
      refine ⟨_, rfl, x, dx, _, rfl, e5 _ _ hx3, rfl, _, rfl, _, rfl, x, dx, nt, bi, _, bs.map V.ref, e, i, rows[i], rfl, e5 _ _ hx3, rfl, rfl, e5 _ _ hnt3, hbt, by rw [List.length_map, hbs3.1]; exact hok, fun H6 e6 => ⟨_, rfl, iteF ⟨_, _, rfl, e5.trans e6⟩⟩⟩
    rintro σ H4 ⟨v4, v5, rfl, e4⟩
    have hx4 := e4 _ _ hx3
    have hnt4 := e4 _ _ hnt3
    have hbs4 := hbs3.same e4
    -- the start
    refine ⟨fun σ H5 => σ = [some (.ref x), some (.ref q), some (.int e), some v, v4, v5, none] ∧ H5 x = some (.ins a.c_Web dx [("nodes", .ref nt), ("ends", .int e), ("start", .int o)]) ∧ H5 nt = some (.tup (bs.map V.ref)) ∧ RowsAt H5 bs rows ∧ ∀ b u, b ≠ x → H1 b = some u → H5 b = some u, ?_, ?_⟩
    · have fin : ∃ (a' C dx' : Addr) (fs : List (Str × V)), V.ref x = .ref a' ∧ H4 a' = some (.ins C dx' fs) ∧ Cls K C ∧ NoAttr K C "start" ∧ fs.length < 1000 ∧ ([some (V.ref x), some (.ref q), some (.int e), some v, v4, v5, none] = [some (.ref x), some (.ref q), some (.int e), some v, v4, v5, none] ∧ upd H4 a' (.ins C dx' (putF "start" (.int o) fs)) x = some (.ins a.c_Web dx [("nodes", .ref nt), ("ends", .int e), ("start", .int o)]) ∧ upd H4 a' (.ins C dx' (putF "start" (.int o) fs)) nt = some (.tup (bs.map V.ref)) ∧ RowsAt (upd H4 a' (.ins C dx' (putF "start" (.int o) fs))) bs rows ∧ ∀ b u, b ≠ x → H1 b = some u → upd H4 a' (.ins C dx' (putF "start" (.int o) fs)) b = some u) := by
        refine ⟨x, _, dx, _, rfl, hx4, T.cl_Web, T.nA_Web_start, by show 2 < 1000; decide, rfl, by rw [upd_same, put3], by rw [upd_ne (nbx hx4 hnt4)]; exact hnt4, ⟨hbs4.1, fun j b row h1 h2 => ?_⟩, fun b u nb hb => by rw [upd_ne nb]; exact e4 _ _ (k3 b u nb hb)⟩
        rw [upd_ne (nbx hx4 (hbs4.2 j b row h1 h2))]
        exact hbs4.2 j b row h1 h2
      refine ⟨_, rfl, rfl, _, rfl, ?_⟩
      rcases hv with rfl | ⟨rfl, ho⟩
      · rw [show decide (V.int o = V.non) = false by simp]
        exact iteF ⟨_, rfl, _, rfl, fin⟩
      · rw [show decide (V.non = V.non) = true by simp]
        refine iteT ⟨_, rfl, x, dx, _, rfl, hx4, rfl, x, dx, nt, _, _, rfl, hx4, rfl, hnt4, ?_⟩
        have eo : (if (bs.map V.ref).isEmpty = true then (-1 : Int) else 0) = o := by
          rw [ho]
          have hl := hbs4.1
          cases bs with
          | nil =>
            cases rows with
            | nil => rfl
            | cons _ _ => cases hl
          | cons _ _ =>
            cases rows with
            | nil => cases hl
            | cons _ _ => rfl
        rw [eo]
        exact ⟨_, rfl, fin⟩
    rintro σ H5 ⟨rfl, hx5, hnt5, hbs5, k5⟩
    refine ⟨fun σ H6 => σ = [some (.ref x), some (.ref q), some (.int e), some v, v4, v5, none] ∧ H6 = H5, ?_, ?_⟩
    · refine ⟨_, rfl, x, _, dx, _, _, rfl, hx5, T.cl_Web, T.nA_Web_start, rfl, _, rfl, x, dx, _, rfl, hx5, x, dx, _, nt, _, e, o, rfl, hx5, rfl, rfl, hnt5, _, rfl, _, rfl, ?_⟩
      rw [decide_eq_true ⟨G.o1, by rw [List.length_map, hbs5.1]; exact G.o2⟩]
      exact iteF ⟨rfl, rfl⟩
    rintro σ H6 ⟨rfl, rfl⟩
    refine ⟨fun σ H7 => σ = [some (.ref x), some (.ref q), some (.int e), some v, v4, v5, some .non] ∧ Same H6 H7, ?_, ?_⟩
    · exact ⟨_, rfl, x, _, dx, _, _, rfl, hx5, T.cl_Web, T.nA_Web_nodes, rfl, nt, bs, rows, e, rfl, hnt5, hbs5, G.len, G.row, G.cert, fun H7 e7 => ⟨rfl, e7⟩⟩
    rintro σ H7 ⟨rfl, e7⟩
    refine ⟨_, rfl, rfl, _, rfl, ?_⟩
    rw [show (!decide (V.non = V.non)) = false by simp]
    exact iteF (k H7 ⟨dx, nt, bs, e7 _ _ hx5, e7 _ _ hnt5, hbs5.same e7⟩ fun b u nb hb => e7 _ _ (k5 b u nb hb))
theorem ok_l_pool (T : Txt K mg a) : FnOk P w K mg base CX0 1 a.f_l_pool a.d_l_pool P_l_pool (spPool K) := by
  refine T.F_l_pool.ok sc_l_pool (fun vs H Q E h => ?_) (fun cdv A outer s H vs Q E hr h => ?_)
  · obtain ⟨x, ns, rfl, _⟩ := h
    rfl
  · obtain ⟨x, ns, rfl, hx, k⟩ := h
    refine ⟨_, (pss_one (ps_ret (pe_lst (pa_cons (pv 0) (pa_cons pe_int (pa_cons pe_int (pa_cons pe_int (pa_cons pe_int pa_nil)))))))), ?_⟩
    refine ⟨_, rfl, by show 5 ≤ sizeLine; decide, fun p hp => ?_⟩
    exact k p _ hp (same_upd hp) ⟨x, ns, 0, 0, 0, 7, hx.gd (same_upd hp).gd, upd_same, by omega, by omega, by omega, by omega, by omega, by omega, by omega⟩
theorem ok_l_draw (T : Txt K mg a) : FnOk P w K mg base CX0 1 a.f_l_draw a.d_l_draw P_l_draw (spDraw K) := by
  refine T.F_l_draw.ok sc_l_draw (fun vs H Q E h => ?_) (fun cdv A outer s H vs Q E hr h => ?_)
  · obtain ⟨p, c, lim, rfl, _⟩ := h
    rfl
  · obtain ⟨p, c, lim, rfl, ⟨sa, ns, c', i, b, st, hsa, hp, c0, c1, i0, i1, b0, s0, s1⟩, hc, l0, l1, k⟩ := h
    refine ⟨_, (Evl.pss_cut (ps_asg (pe_op op_add (pe_ix ix_list (pv 0) pe_int (by intro _ _; rfl)) pe_int) (pg_sub (pv 0) pe_int set_list))
  (Evl.pss_cut (ps_if (PW.pt (pw_and (pt_cmpR op_eq (pe_ix ix_list (pv 0) pe_int (by intro _ _; rfl)) pe_int (nomark _)) (pw_and1 (pt_cmpR op_lt (pe_ix ix_list (pv 0) pe_int (by intro _ _; rfl)) (pe_callB call_len_seq (by rfl) T.z_len (by decide +kernel) (pa_cons (pe_ix ix_list (pv 0) pe_int (by intro _ _; rfl)) pa_nil)) (nomark _)))))
    (pss_cons (ps_set (i := 2) sc_l_draw.nd rfl (Or.inl rfl) (pe_callB call_abs (by rfl) T.z_abs (by decide +kernel) (pa_cons (pe_ix ix_list (pe_ix ix_list (pv 0) pe_int (by intro _ _; rfl)) (pe_ix ix_list (pv 0) pe_int (by intro _ _; rfl)) (by intro _ _; rfl)) pa_nil)))
  (pss_cons (ps_asg (pe_op op_add (pe_ix ix_list (pv 0) pe_int (by intro _ _; rfl)) pe_int) (pg_sub (pv 0) pe_int set_list))
  (pss_one (ps_if (pt_cmpR op_ge (pv 2) (pe_op op_pow pe_int pe_int) (nomark _))
    (pss_one (ps_asg (pv 2) (pg_sub (pv 0) pe_int set_list)))
    (pss_one (ps_asg (pe_op op_mod (pe_callTy call_int1 (by rfl) T.z_int (by decide +kernel) (pa_cons (pe_op op_mul (pe_op op_add (pe_op op_add (pe_ix ix_list (pv 0) pe_int (by intro _ _; rfl)) (pv 2)) pe_int) pe_int) pa_nil)) pe_int) (pg_sub (pv 0) pe_int set_list)))))))
    pss_nil)
  (pss_cons (ps_if (pt_cmpR op_gt (pe_ix ix_list (pv 0) pe_int (by intro _ _; rfl)) pe_int (nomark _))
    (pss_cons (ps_set (i := 3) sc_l_draw.nd rfl (Or.inl rfl) (pe_op op_mod (pe_callTy call_int1 (by rfl) T.z_int (by decide +kernel) (pa_cons (pe_ix ix_list (pv 0) pe_int (by intro _ _; rfl)) pa_nil)) (pv 1)))
  (pss_cons (ps_asg (pe_op op_fdivW (pe_ix ix_list (pv 0) pe_int (by intro _ _; rfl)) (pv 1)) (pg_sub (pv 0) pe_int set_list))
  (pss_one (ps_ret (pv 3)))))
    pss_nil)
  (pss_cons (ps_set (i := 4) sc_l_draw.nd rfl (Or.inl rfl) (pe_op op_mod (pe_callTy call_int1 (by rfl) T.z_int (by decide +kernel) (pa_cons (pe_op op_pow (pe_op op_add (pe_ix ix_list (pv 0) pe_int (by intro _ _; rfl)) (pe_op op_mul (pe_ix ix_list (pv 0) pe_int (by intro _ _; rfl)) pe_int)) pe_int) pa_nil)) pe_int))
  (pss_one (ps_ret (pe_op op_mod (pe_callTy call_int1 (by rfl) T.z_int (by decide +kernel) (pa_cons (pe_op op_fdivW (pv 4) pe_int) pa_nil)) (pv 1)))))))), ?_⟩
    have hp : H p = some (pl sa c' i b st) := hp
    -- pool[1] = pool[1] + 1
    refine ⟨fun σ H1 => σ = [some (.ref p), some (.int lim), none, none, none] ∧ H1 = upd H p (pl sa (c' + 1) i b st), ?_, ?_⟩
    · exact ⟨_, rfl, p, _, 1, _, rfl, rfl, lst_of hp, atI1, c', 1, rfl, rfl, _, rfl, p, _, 1, 1, rfl, rfl, hp, rfl, rfl, rfl⟩
    · rintro σ H1 ⟨rfl, rfl⟩
      -- the cell
      refine ⟨fun σ H2 => ∃ (i' b' st' : Int) (v : Option V), σ = [some (.ref p), some (.int lim), v, none, none] ∧ H2 = upd H p (pl sa (c' + 1) i' b' st') ∧ 0 ≤ i' ∧ i' ≤ (ns.length : Int) ∧ 0 ≤ b' ∧ 0 ≤ st' ∧ st' < 2147483629, ?_, ?_⟩
      · have hP : upd H p (pl sa (c' + 1) i b st) p = some (pl sa (c' + 1) i b st) := upd_same
        have hS : SqL K (upd H p (pl sa (c' + 1) i b st)) sa (ns.map V.int) := (hsa.gd (gd_pool hp)).seq
        refine ⟨_, rfl, p, _, 3, _, rfl, rfl, lst_of hP, atI3, rfl, _, rfl, ?_⟩
        refine ite2 (fun e1 => ?_) (fun e1 => ?_)
        · refine ⟨_, rfl, p, _, 2, _, rfl, rfl, lst_of hP, atI2, _, rfl, p, _, 0, _, rfl, rfl, lst_of hP, atI0, sa, _, rfl, .inl hS, i, _, rfl, rfl, _, rfl, ?_⟩
          refine ite2 (fun e2 => ?_) (fun e2 => ?_)
          · have hi : i < (ns.length : Int) := by
              have := of_decide_eq_true e2
              rw [List.length_map] at this
              exact this
            obtain ⟨j, rfl⟩ : ∃ j : Nat, i = (j : Int) := ⟨i.toNat, by omega⟩
            have hj : j < ns.length := by omega
            have hg : (ns.map V.int)[j]? = some (.int ns[j]) := by
              rw [List.getElem?_map, List.getElem?_eq_getElem hj]
              rfl
            -- cell = abs(pool[0][pool[2]])
            refine ⟨_, rfl, p, _, 0, _, rfl, rfl, lst_of hP, atI0, _, rfl, p, _, 2, _, rfl, rfl, lst_of hP, atI2, sa, _, (j : Int), _, rfl, rfl, hS, atI_nat hg, _, rfl, ?_⟩
            -- pool[2] = pool[2] + 1
            refine ⟨_, rfl, p, _, 2, _, rfl, rfl, lst_of hP, atI2, (j : Int), 1, rfl, rfl, _, rfl, p, _, 2, 2, rfl, rfl, hP, rfl, ?_⟩
            have hP2 : upd (upd H p (pl sa (c' + 1) (j : Int) b st)) p (pl sa (c' + 1) ((j : Int) + 1) b st) p = some (pl sa (c' + 1) ((j : Int) + 1) b st) := upd_same
            have c0' : 0 ≤ (if ns[j] < 0 then -ns[j] else ns[j]) := by split <;> omega
            refine ⟨_, rfl, _, 18, rfl, rfl, ⟨by decide, by decide, by decide⟩, _, _, rfl, rfl, _, rfl, ?_⟩
            refine ite2 (fun e3 => ?_) (fun e3 => ?_)
            · refine ⟨_, rfl, _, rfl, p, _, 3, 3, rfl, rfl, hP2, rfl, ?_⟩
              refine ⟨(j : Int) + 1, _, st, _, rfl, ?_, by omega, by omega, c0', s0, s1⟩
              rw [upd_upd, upd_upd]
              rfl
            · have hlt : (if ns[j] < 0 then -ns[j] else ns[j]) < 10 ^ (18 : Int).toNat := by
                refine Int.not_le.mp fun hh => e3 (decide_eq_true hh)
              refine ⟨_, rfl, p, _, 4, _, rfl, rfl, lst_of hP2, atI4, _, rfl, st, _, rfl, rfl, _, 1, rfl, rfl, _, 48271, rfl, rfl, .inr ⟨by decide, by decide⟩, .inl ⟨_, rfl, _, 2147483629, rfl, rfl, (by show (0 : Int) < 2147483629; decide), _, rfl, p, _, 4, 4, rfl, rfl, hP2, rfl, ?_⟩⟩
              refine ⟨(j : Int) + 1, b, ((st + if ns[j] < 0 then -ns[j] else ns[j]) + 1) * 48271 % 2147483629, _, rfl, ?_, by omega, by omega, b0, Int.emod_nonneg _ (by decide), Int.emod_lt_of_pos _ (by decide)⟩
              rw [upd_upd, upd_upd]
              rfl
          · exact ⟨i, b, st, _, rfl, rfl, i0, i1, b0, s0, s1⟩
        · exact ⟨i, b, st, _, rfl, rfl, i0, i1, b0, s0, s1⟩
      · rintro σ H2 ⟨i', b', st', v, rfl, rfl, i0', i1', b0', s0', s1'⟩
        have hP : upd H p (pl sa (c' + 1) i' b' st') p = some (pl sa (c' + 1) i' b' st') := upd_same
        have fin : ∀ (b'' : Int) (r : Int), 0 ≤ b'' → 0 ≤ r → r < lim → Q (.int r) (upd H p (pl sa (c' + 1) i' b'' st')) := fun b'' r hb hr0 hr1 =>
          k _ r (gd_pool hp) ⟨sa, ns, c' + 1, i', b'', st', hsa.gd (gd_pool hp), upd_same, by omega, by omega, i0', i1', hb, s0', s1'⟩ hr0 hr1
        refine ⟨_, rfl, p, _, 3, _, rfl, rfl, lst_of hP, atI3, b', 0, rfl, rfl, _, rfl, ?_⟩
        refine ite2 (fun e1 => ?_) (fun e1 => ?_)
        · refine ⟨_, rfl, p, _, 3, _, rfl, rfl, lst_of hP, atI3, .inl ⟨_, rfl, _, rfl, b', lim, rfl, rfl, l0, ?_⟩⟩
          refine ⟨_, rfl, p, _, 3, _, rfl, rfl, lst_of hP, atI3, _, rfl, b', lim, rfl, rfl, ⟨l0, ?_⟩, _, rfl, p, _, 3, 3, rfl, rfl, hP, rfl, _, rfl, ?_⟩
          · exact (wide_div (i := 0) (b := 200) l0 (by omega) (by decide) (by decide)).2
          · have := fin (b' / lim) (b' % lim) (Int.ediv_nonneg b0' (by omega)) (Int.emod_nonneg _ (by omega)) (Int.emod_lt_of_pos _ l0)
            rw [upd_upd]
            exact this
        · refine ⟨_, rfl, p, _, 4, _, rfl, rfl, lst_of hP, atI4, _, rfl, p, _, 1, _, rfl, rfl, lst_of hP, atI1, c' + 1, 7919, rfl, rfl, .inr ⟨by decide, by decide⟩, st', _, rfl, rfl, _, 3, rfl, rfl, ⟨by decide, by decide, ?_⟩, .inl ⟨_, rfl, _, 2147483647, rfl, rfl, (by show (0 : Int) < 2147483647; decide), ?_⟩⟩
          · unfold LIM at hc
            omega
          · refine ⟨_, rfl, _, 16, rfl, rfl, ⟨by decide, by decide⟩, .inl ⟨_, rfl, _, rfl, _, lim, rfl, rfl, l0, ?_⟩⟩
            exact fin b' _ b0' (Int.emod_nonneg _ (by omega)) (Int.emod_lt_of_pos _ l0)
theorem ok_l_names (T : Txt K mg a) : FnOk P w K mg base CX0 2 a.f_l_names a.d_l_names P_l_names (spNames K) := by
  refine T.F_l_names.ok sc_l_names (fun vs H Q E h => ?_) (fun cdv A outer s H vs Q E hr h => ?_)
  · obtain ⟨p, c, m, rfl, _⟩ := h
    rfl
  · obtain ⟨p, c, m, rfl, hp, hc, m0, m1, k⟩ := h
    refine ⟨_, (pss_cons (ps_set (i := 2) sc_l_names.nd rfl (Or.inl rfl) (pe_lst pa_nil))
  (pss_cons (ps_for PassesOwn.never rfl (pi_range1 (by rfl) T.z_range (pa_cons (pe_op op_add pe_int (pe_call (ok_l_draw T) (hr.mono (by decide)) (by rfl) T.g_l_draw T.k_l_draw T.b_l_draw .nil pass0 (pa_cons (pv 0) (pa_cons (pv 1) pa_nil)))) pa_nil)) (pg_name (i := 3) sc_l_names.nd rfl (Or.inl rfl))
    (Evl.pss_cut (ps_set (i := 4) sc_l_names.nd rfl (Or.inl rfl) (pe_call (ok_l_draw T) (hr.mono (by decide)) (by rfl) T.g_l_draw T.k_l_draw T.b_l_draw .nil pass0 (pa_cons (pv 0) (pa_cons pe_int pa_nil))))
  (pss_one (ps_if (pt_cmpR op_notIn_seq (pv 4) (pv 2) (by with_unfolding_all rfl))
    (pss_one (ps_expr (pe_bm PySem.F.plainAttrs_list PySem.F.slot_list_append PySem.F.type_list_append mt_append (pv 2) (pa_cons (pv 4) pa_nil))))
    pss_nil))))
  (pss_one (ps_ret (pv 2))))), ?_⟩
    refine ⟨by show 0 ≤ sizeLine; decide, fun D nD => ?_⟩
    have e0 := same_upd nD (o := .lst [])
    refine ⟨_, rfl, _, rfl, p, c, m, rfl, hp.same e0, by omega, m0, Int.lt_of_le_of_lt m1 (by decide), fun H1 r g1 p1 r0 r1 => ⟨_, _, rfl, rfl, _, rfl, by omega, by omega, ?_⟩⟩
    refine for_range (lo := 0) (n := (1 + r).toNat) (fun i σ H2 => ∃ (l : List Int) (v3 v4 : Option V), σ = [some (.ref p), some (.int m), some (.ref D), v3, v4] ∧ H2 D = some (.lst (l.map V.int)) ∧ l.length ≤ i ∧ (0 < i → l ≠ []) ∧ Qn l ∧ l.Nodup ∧ Gd H H2 ∧ PoolOk K p (c + 1 + i) H2)
      ⟨[], _, _, rfl, g1.1 _ _ (np_ints []) upd_same, Nat.le_refl _, fun h => absurd h (by decide), fun _ h => (nomatch h), List.nodup_nil, e0.gd.trans g1, p1⟩ ?_ ?_
    · rintro i σ H2 hi ⟨l, v3, v4, rfl, hD, hl, hne, hq, hnd, g2, p2⟩
      refine ⟨fun σ H3 => ∃ z : Int, σ = [some (.ref p), some (.int m), some (.ref D), some (.int (0 + (i : Nat))), some (.int z)] ∧ 0 ≤ z ∧ z < 48 ∧ Gd H2 H3 ∧ PoolOk K p (c + 2 + i) H3, ?_, ?_⟩
      · exact ⟨_, rfl, p, _, 48, rfl, p2, by omega, by decide, by decide, fun H3 z g3 p3 z0 z1 => ⟨z, rfl, z0, z1, g3, p3.mono (by omega)⟩⟩
      rintro σ H3 ⟨z, rfl, z0, z1, g3, p3⟩
      have hD3 := g3.1 _ _ (np_ints l) hD
      have g23 := g2.trans g3
      refine ⟨_, rfl, _, rfl, in_k (neg := true) (.inl (lst_of hD3)) ⟨_, rfl, ?_⟩⟩
      by_cases hz : z ∈ l
      · rw [decide_eq_true hz]
        exact iteF ⟨l, _, _, rfl, hD3, by omega, fun _ => List.ne_nil_of_mem hz, hq, hnd, g23, p3.mono (by omega)⟩
      · rw [decide_eq_false hz]
        refine iteT ⟨_, rfl, .inl ⟨rfl, _, lst_of hD3⟩, _, rfl, D, _, _, rfl, rfl, hD3, by rw [List.length_map, sizeLine_eq]; omega, ?_⟩
        refine ⟨l ++ [z], _, _, rfl, by rw [upd_same, List.map_append]; rfl, by rw [List.length_append, List.length_singleton]; omega, fun _ => by simp, qn_append hq fun y hy => by rw [List.mem_singleton.mp hy]; exact ⟨z0, z1⟩, ?_, g23.mut nD, (p3.mut hD3 (np_ints l)).mono (by omega)⟩
        exact List.nodup_append.mpr ⟨hnd, by simp, fun u hu v hv => by rw [List.mem_singleton.mp hv]; exact fun h => hz (h ▸ hu)⟩
    · rintro σ H2 ⟨l, v3, v4, rfl, hD, hl, hne, hq, hnd, g2, p2⟩
      exact ⟨_, rfl, k H2 D l nD g2 (p2.mono (by omega)) hD hq (hne (by omega)) (by omega) hnd⟩
theorem ok_l_target (T : Txt K mg a) : FnOk P w K mg base CX0 2 a.f_l_target a.d_l_target P_l_target (spTarget K) := by
  refine T.F_l_target.ok sc_l_target (fun vs H Q E h => ?_) (fun cdv A outer s H vs Q E hr h => ?_)
  · obtain ⟨p, c, idx, cnt, e, rfl, _⟩ := h
    rfl
  · obtain ⟨p, c, idx, cnt, e, rfl, hp, hc, i0, i1, c1, e1, e2, k⟩ := h
    refine ⟨_, (Evl.pss_cut (ps_if (PW.pt (pw_and (pt_cmpR op_lt (pe_op op_add (pv 1) pe_int) (pv 2) (nomark _)) (pw_and1 (pt_cmpR op_gt (pe_call (ok_l_draw T) (hr.mono (by decide)) (by rfl) T.g_l_draw T.k_l_draw T.b_l_draw .nil pass0 (pa_cons (pv 0) (pa_cons pe_int pa_nil))) pe_int (nomark _)))))
    (pss_cons (ps_set (i := 4) sc_l_target.nd rfl (Or.inl rfl) (pe_op op_sub (pe_op op_sub (pv 2) pe_int) (pv 1)))
  (Evl.pss_cut (ps_if (pt_cmpR op_gt (pe_call (ok_l_draw T) (hr.mono (by decide)) (by rfl) T.g_l_draw T.k_l_draw T.b_l_draw .nil pass0 (pa_cons (pv 0) (pa_cons pe_int pa_nil))) pe_int (nomark _))
    (pss_one (ps_set (i := 4) sc_l_target.nd rfl (Or.inl rfl) (pe_callB (call_min2 rfl) (by rfl) T.z_min (by decide +kernel) (pa_cons pe_int (pa_cons (pe_callTy call_int1 (by rfl) T.z_int (by decide +kernel) (pa_cons (pv 4) pa_nil)) pa_nil)))))
    pss_nil)
  (pss_one (ps_ret (pe_op op_add (pe_op op_add (pv 1) pe_int) (pe_call (ok_l_draw T) (hr.mono (by decide)) (by rfl) T.g_l_draw T.k_l_draw T.b_l_draw .nil pass0 (pa_cons (pv 0) (pa_cons (pv 4) pa_nil))))))))
    pss_nil)
  (pss_one (ps_ret (pe_op op_sub (pe_un un_neg pe_int) (pe_call (ok_l_draw T) (hr.mono (by decide)) (by rfl) T.g_l_draw T.k_l_draw T.b_l_draw .nil pass0 (pa_cons (pv 0) (pa_cons (pv 3) pa_nil))))))), ?_⟩
    have low : ∀ H1 d, Gd H H1 → PoolOk K p (c + d) H1 → d ≤ 1 → ∀ H2 r, Gd H1 H2 → PoolOk K p (c + d + 1) H2 → 0 ≤ r → r < e → Q (.int (-1 - r)) H2 := fun H1 d g1 p1 hd H2 r g2 p2 r0 r1 =>
      k H2 _ (g1.trans g2) (p2.mono (by omega)) ⟨by omega, by omega, by omega⟩
    refine ⟨fun σ H1 => ∃ d, σ = [some (.ref p), some (.int idx), some (.int cnt), some (.int e), none] ∧ Gd H H1 ∧ PoolOk K p (c + d) H1 ∧ d ≤ 1, ?_, ?_⟩
    · refine ⟨_, rfl, _, _, rfl, rfl, _, rfl, _, _, rfl, rfl, _, rfl, ite2 (fun h1 => ?_) (fun h1 => ⟨0, rfl, Gd.refl _, hp, by decide⟩)⟩
      have h1 : idx + 1 < cnt := of_decide_eq_true h1
      refine ⟨_, rfl, p, c, 4, rfl, hp, by omega, by decide, by decide, fun H1 r g1 p1 r0 r1 => ⟨_, _, rfl, rfl, _, rfl, ite2 (fun h2 => ?_) (fun h2 => ⟨1, rfl, g1, p1, by decide⟩)⟩⟩
      -- wide
      refine ⟨_, rfl, _, _, rfl, rfl, _, rfl, _, _, rfl, rfl, ?_⟩
      refine ⟨fun σ H2 => ∃ wd : Int, σ = [some (.ref p), some (.int idx), some (.int cnt), some (.int e), some (.int wd)] ∧ 0 < wd ∧ wd ≤ cnt - 1 - idx ∧ Gd H H2 ∧ PoolOk K p (c + 2) H2, ?_, ?_⟩
      · refine ⟨_, rfl, p, c + 1, 3, rfl, p1, by omega, by decide, by decide, fun H2 u g2 p2 u0 u1 => ⟨_, _, rfl, rfl, _, rfl, ite2 (fun h3 => ?_) (fun h3 => ⟨_, rfl, by omega, by omega, g1.trans g2, p2⟩)⟩⟩
        refine ⟨_, rfl, .inl ⟨_, rfl, _, _, rfl, ?_⟩⟩
        exact ⟨_, rfl, by split <;> omega, by split <;> omega, g1.trans g2, p2⟩
      rintro σ H2 ⟨wd, rfl, w0, w1, g2, p2⟩
      refine ⟨_, rfl, _, _, rfl, rfl, _, rfl, _, rfl, p, c + 2, wd, rfl, p2, by omega, w0, Int.lt_of_le_of_lt (show wd ≤ 400 by omega) (by decide), fun H3 u g3 p3 u0 u1 => ⟨_, _, rfl, rfl, ?_⟩⟩
      exact k H3 _ (g2.trans g3) p3 ⟨by omega, by omega, by omega⟩
    rintro σ H1 ⟨d, rfl, g1, p1, hd⟩
    exact ⟨_, rfl, _, rfl, _, rfl, p, c + d, e, rfl, p1, by omega, by omega, Int.lt_of_le_of_lt e2 (by decide), fun H2 r g2 p2 r0 r1 => ⟨_, _, rfl, rfl, low H1 d g1 p1 hd H2 r g2 p2 r0 r1⟩⟩
/-- what stands behind i turns of _law_nodes -/
def NS (K : PySem.W.Frag) (H0 : Hp) (p : Addr) (c N : Nat) (e : Int) (nms : List Int) (Nn Bb : Addr) (i : Nat) (H : Hp) (as : List Addr) (rows : List (List Int)) (bs : List Addr) (bels : List (List Int)) : Prop :=
  H Nn = some (.lst (as.map V.ref)) ∧ H Bb = some (.lst (bs.map V.ref)) ∧ RowsAt H as rows ∧ rows.length = i ∧ bs.length = i ∧ GoodS e N nms rows bels ∧
  (∀ (j : Nat) b l, bs[j]? = some b → bels[j]? = some l → H b = some (.lst (l.map V.int)) ∧ l.length + 1 ≤ 3 ^ i ∧ b ≠ Nn ∧ b ≠ Bb) ∧ Gd H0 H ∧ PoolOk K p (c + 60 * i) H
theorem pow3 {i : Nat} (h : i ≤ 13) : 3 ^ i ≤ 1594323 := Nat.le_trans (Nat.pow_le_pow_right (by decide) h) (by decide)
theorem ok_l_nodes (T : Txt K mg a) : FnOk P w K mg base CX0 3 a.f_l_nodes a.d_l_nodes P_l_nodes (spNodes K) := by
  refine T.F_l_nodes.ok sc_l_nodes (fun vs H Q E h => ?_) (fun cdv A outer s H vs Q E hr h => ?_)
  · obtain ⟨p, nm, c, N, e, sk, nms, rfl, _⟩ := h
    rfl
  · obtain ⟨p, nm, c, N, e, sk, nms, rfl, hp, hc, hN, e1, e2, hnm, hne, hnl, k⟩ := h
    refine ⟨_, (pss_cons (ps_set (i := 5) sc_l_nodes.nd rfl (Or.inl rfl) (pe_lst pa_nil))
  (pss_cons (ps_set (i := 6) sc_l_nodes.nd rfl (Or.inl rfl) (pe_lst pa_nil))
  (pss_cons (ps_for PassesOwn.never rfl (pi_range1 (by rfl) T.z_range (pa_cons (pv 1) pa_nil)) (pg_name (i := 7) sc_l_nodes.nd rfl (Or.inl rfl))
    (Evl.pss_cut (ps_set (i := 8) sc_l_nodes.nd rfl (Or.inr rfl) (pe_op op_sub (pe_op op_sub (pv 1) pe_int) (pv 7)))
  (Evl.pss_cut (ps_set (i := 9) sc_l_nodes.nd rfl (Or.inl rfl) (pe_op op_add pe_int (pe_callTy call_int1 (by rfl) T.z_int (by decide +kernel) (pa_cons (pe_and (pv 4) (pe_one (pe_cmpR op_eq (pe_call (ok_l_draw T) (hr.mono (by decide)) (by rfl) T.g_l_draw T.k_l_draw T.b_l_draw .nil pass0 (pa_cons (pv 0) (pa_cons pe_int pa_nil))) pe_int (nomark _)))) pa_nil))))
  (Evl.pss_cut (ps_setLc (i := 10) (own := [("_law_at", 15)]) (g := gName 15) (tt := tYes) (te := (tCall (spTarget K) [] E0 (tCons (tVar 0) (tCons (tVar 8) (tCons (tVar 1) (tCons (tVar 2) tNil)))))) rfl sc_l_nodes.nd rfl rfl (sw_true rfl rfl rfl (by decide +kernel)) (pi_range1 (by rfl) T.z_range (pa_cons (pv 9) pa_nil)) (blkOk_by (N := N_l_nodes) (sc := defScope s_l_nodes) (by decide +kernel)) (fun _ _ _ _ _ => pg_name (i := 15) sc_l_nodes.nd rfl (Or.inl rfl)) (fun _ _ _ _ _ => pts_nil) (fun _ _ _ _ _ => by exact (pe_call (ok_l_target T) (hr.mono (by decide)) (by rfl) T.g_l_target T.k_l_target T.b_l_target .nil pass0 (pa_cons (pv 0) (pa_cons (pv 8) (pa_cons (pv 1) (pa_cons (pv 2) pa_nil)))))))
  (Evl.pss_cut (ps_set (i := 11) sc_l_nodes.nd rfl (Or.inr rfl) (pe_lst pa_nil))
  (Evl.pss_cut (ps_for PassesOwn.never rfl (pi_list (pv 10)) (pg_name (i := 12) sc_l_nodes.nd rfl (Or.inl rfl))
    (pss_one (ps_if (pt_cmpR op_ge (pv 12) pe_int (nomark _))
    (pss_one (ps_set (i := 11) sc_l_nodes.nd rfl (Or.inr rfl) (pe_op op_cat (pv 11) (pe_ix ix_list (pv 6) (pe_op op_sub (pe_op op_sub (pv 12) (pv 8)) pe_int) (by intro _ _; rfl)))))
    pss_nil)))
  (Evl.pss_cut (ps_setLc (i := 13) (own := [("_law_name", 16)]) (g := gName 16) (tt := (tTest (tOp (rIn K true) (tVar 16) (tVar 11)))) (te := (tVar 16)) rfl sc_l_nodes.nd rfl rfl (sw_true rfl rfl rfl (by decide +kernel)) (pi_list (pv 3)) (blkOk_by (N := N_l_nodes) (sc := defScope s_l_nodes) (by decide +kernel)) (fun _ _ _ _ _ => pg_name (i := 16) sc_l_nodes.nd rfl (Or.inl rfl)) (fun _ _ _ _ _ => by exact (pts_one (pt_cmpR op_notIn_seq (pv 16) (pv 11) (by with_unfolding_all rfl)))) (fun _ _ _ _ _ => by exact (pv 16)))
  (Evl.pss_cut (ps_if (pt_cmpR (op_eqD hr.units) (pv 13) (pe_lst pa_nil) (nomark _))
    (pss_cons (ps_setLc (i := 10) (own := [("_law_at", 15)]) (g := gName 15) (tt := tYes) (te := (tOp (rI0 fun i j => .int (i - j)) (tUn (rU fun i => .int (-i)) (tC (.int 1))) (tCall (spDraw K) [] E0 (tCons (tVar 0) (tCons (tVar 2) tNil))))) rfl sc_l_nodes.nd rfl rfl (sw_true rfl rfl rfl (by decide +kernel)) (pi_range1 (by rfl) T.z_range (pa_cons (pv 9) pa_nil)) (blkOk_by (N := N_l_nodes) (sc := defScope s_l_nodes) (by decide +kernel)) (fun _ _ _ _ _ => pg_name (i := 15) sc_l_nodes.nd rfl (Or.inl rfl)) (fun _ _ _ _ _ => pts_nil) (fun _ _ _ _ _ => by exact (pe_op op_sub (pe_un un_neg pe_int) (pe_call (ok_l_draw T) (hr.mono (by decide)) (by rfl) T.g_l_draw T.k_l_draw T.b_l_draw .nil pass0 (pa_cons (pv 0) (pa_cons (pv 2) pa_nil))))))
  (Evl.pss_cut (ps_set (i := 11) sc_l_nodes.nd rfl (Or.inr rfl) (pe_lst pa_nil))
  (pss_one (ps_set (i := 13) sc_l_nodes.nd rfl (Or.inl rfl) (pv 3)))))
    pss_nil)
  (Evl.pss_cut (ps_set (i := 14) sc_l_nodes.nd rfl (Or.inl rfl) (pe_ix ix_list (pv 13) (pe_call (ok_l_draw T) (hr.mono (by decide)) (by rfl) T.g_l_draw T.k_l_draw T.b_l_draw .nil pass0 (pa_cons (pv 0) (pa_cons (pe_callB call_len_seq (by rfl) T.z_len (by decide +kernel) (pa_cons (pv 13) pa_nil)) pa_nil))) (by intro _ _; rfl)))
  (Evl.pss_cut (ps_expr (pe_bm PySem.F.plainAttrs_list PySem.F.slot_list_insert PySem.F.type_list_insert mt_insert (pv 5) (pa_cons pe_int (pa_cons (pe_callTy call_tuple_of (by rfl) T.z_tuple (by decide +kernel) (pa_cons (pe_op op_cat (pe_lst (pa_cons (pv 14) pa_nil)) (pv 10)) pa_nil)) pa_nil))))
  (pss_one (ps_expr (pe_bm PySem.F.plainAttrs_list PySem.F.slot_list_insert PySem.F.type_list_insert mt_insert (pv 6) (pa_cons pe_int (pa_cons (pe_op op_cat (pv 11) (pe_lst (pa_cons (pv 14) pa_nil))) pa_nil)))))))))))))))
  (pss_one (ps_ret (pv 5)))))), ?_⟩
    refine ⟨by show 0 ≤ sizeLine; decide, fun Nn nNn => ?_⟩
    refine ⟨by show 0 ≤ sizeLine; decide, fun Bb nBb => ?_⟩
    have s1 := same_upd nNn (o := .lst [])
    have s2 := same_upd nBb (o := .lst [])
    have nBb0 : H Bb = none := s1.free nBb
    have nNB : Nn ≠ Bb := ne_of_none upd_same nBb
    have nmN : nm ≠ Nn := ne_of_none hnm nNn
    have nmB : nm ≠ Bb := ne_of_none hnm nBb0
    refine ⟨_, rfl, _, rfl, by omega, by omega, ?_⟩
    rw [Int.toNat_natCast]
    refine for_range (lo := 0) (n := N) (fun i σ H1 => ∃ v7 v8 v9 v10 v11 v12 v13 v14, ∃ (as : List Addr) (rows : List (List Int)) (bs : List Addr) (bels : List (List Int)), σ = [some (.ref p), some (.int N), some (.int e), some (.ref nm), some (.bl sk), some (.ref Nn), some (.ref Bb), v7, v8, v9, v10, v11, v12, v13, v14, none, none] ∧ NS K H p c N e nms Nn Bb i H1 as rows bs bels)
      ⟨_, _, _, _, _, _, _, _, [], [], [], [], rfl, s2 _ _ upd_same, upd_same, ⟨rfl, fun j _ _ h => by simp at h⟩, rfl, rfl, trivial, fun j _ _ h => by simp at h, (s1.trans s2).gd, (hp.same (s1.trans s2)).mono (by omega)⟩ ?_ ?_
    · rintro i σ H1 hi ⟨v7, v8, v9, v10, v11, v12, v13, v14, as, rows, bs, bels, rfl, hNn, hBb, hrows, hrl, hbl, hgs, hbs, g1, p1⟩
      have e0 : (0 : Int) + ((i : Nat) : Int) = (i : Int) := Int.zero_add _
      rw [e0]
      have p3 := pow3 (i := i) (by omega)
      obtain ⟨g, hg⟩ : ∃ g : Nat, g = N - (rows.length + 1) := ⟨_, rfl⟩
      have hgi : (N : Int) - 1 - (i : Int) = (g : Int) := by omega
      have hnm1 := g1.1 _ _ (np_ints _) hnm
      -- index
      refine ⟨fun σ H2 => σ = [some (.ref p), some (.int N), some (.int e), some (.ref nm), some (.bl sk), some (.ref Nn), some (.ref Bb), some (.int i), some (.int g), v9, v10, v11, v12, v13, v14, none, none] ∧ H2 = H1, ?_, ?_⟩
      · refine ⟨_, rfl, _, _, rfl, rfl, _, rfl, _, _, rfl, rfl, ?_, rfl⟩
        rw [← hgi]
        rfl
      rintro σ H2 ⟨rfl, rfl⟩
      -- width
      refine ⟨fun σ H3 => ∃ wd : Nat, σ = [some (.ref p), some (.int N), some (.int e), some (.ref nm), some (.bl sk), some (.ref Nn), some (.ref Bb), some (.int i), some (.int g), some (.int wd), v10, v11, v12, v13, v14, none, none] ∧ (wd = 2 ∨ wd = 3) ∧ Gd H2 H3 ∧ PoolOk K p (c + 60 * i + 1) H3, ?_, ?_⟩
      · refine ⟨_, rfl, _, rfl, ite2 (fun h => ?_) (fun h => ?_)⟩
        · refine ⟨_, rfl, p, _, 3, rfl, p1, by omega, by decide, by decide, fun H3 u g3 p3 u0 u1 => ⟨rfl, .inr ⟨_, rfl, _, _, rfl, rfl, ?_⟩⟩⟩
          by_cases hu : V.int u = V.int 0
          · rw [decide_eq_true hu]
            exact ⟨3, rfl, .inr rfl, g3, p3⟩
          · rw [decide_eq_false hu]
            exact ⟨2, rfl, .inl rfl, g3, p3⟩
        · exact .inr ⟨_, rfl, _, _, rfl, rfl, 2, rfl, .inl rfl, Gd.refl _, p1.mono (by omega)⟩
      rintro σ H3 ⟨wd, rfl, hwd, g3, p3'⟩
      -- targets
      refine ⟨fun σ H4 => ∃ (Tt : Addr) (r : List Int), σ = [some (.ref p), some (.int N), some (.int e), some (.ref nm), some (.bl sk), some (.ref Nn), some (.ref Bb), some (.int i), some (.int g), some (.int wd), some (.ref Tt), v11, v12, v13, v14, none, none] ∧ H4 Tt = some (.lst (r.map V.int)) ∧ r.length = wd ∧ (∀ t ∈ r, TgtOk e N g t) ∧ Gd H3 H4 ∧ PoolOk K p (c + 60 * i + 20) H4, ?_, ?_⟩
      · refine ⟨_, rfl, _, rfl, by omega, by omega, fun D nD => ?_⟩
        rw [Int.toNat_natCast]
        refine lc_range (lo := 0) (n := wd) (fun j H4 => ∃ r : List Int, H4 D = some (.lst (r.map V.int)) ∧ r.length = j ∧ (∀ t ∈ r, TgtOk e N g t) ∧ Gd H3 H4 ∧ PoolOk K p (c + 60 * i + 1 + 3 * j) H4) ⟨[], upd_same, rfl, fun _ h => (nomatch h), (same_upd nD).gd, p3'.upd nD⟩ (fun j H4 hj h => ?_) (fun H4 h => ?_)
        · obtain ⟨r, hD, hrl2, hrt, g4, p4⟩ := h
          refine ⟨rfl, tyes ?_⟩
          refine ⟨_, rfl, _, rfl, _, rfl, _, rfl, p, c + 60 * i + 1 + 3 * j, g, N, e, rfl, p4, by omega, by omega, by omega, by omega, e1, e2, fun H5 t g5 p5 ht => ?_⟩
          have hD5 := g5.1 _ _ (np_ints r) hD
          refine ⟨_, hD5, by rw [List.length_map, sizeLine_eq]; omega, r ++ [t], by rw [upd_same, List.map_append]; rfl, by rw [List.length_append, hrl2]; rfl, fun y hy => ?_, (g4.trans g5).mut nD, (p5.mut hD5 (np_ints r)).mono (by omega)⟩
          rcases List.mem_append.mp hy with hy | hy
          · exact hrt y hy
          · rw [List.mem_singleton.mp hy]; exact ht
        · obtain ⟨r, hD, hrl2, hrt, g4, p4⟩ := h
          exact ⟨D, r, rfl, hD, hrl2, hrt, g4, p4.mono (by omega)⟩
      rintro σ H4 ⟨Tt, r, rfl, hT, hrl4, hrt, g4, p4⟩
      -- used = []
      refine ⟨fun σ H5 => ∃ U : Addr, σ = [some (.ref p), some (.int N), some (.int e), some (.ref nm), some (.bl sk), some (.ref Nn), some (.ref Bb), some (.int i), some (.int g), some (.int wd), some (.ref Tt), some (.ref U), v12, v13, v14, none, none] ∧ Same H4 H5 ∧ H5 U = some (.lst []) ∧ H4 U = none, ?_, ?_⟩
      · exact ⟨by show 0 ≤ sizeLine; decide, fun U nU => ⟨U, rfl, same_upd nU, upd_same, nU⟩⟩
      rintro σ H5 ⟨U0, rfl, e5, hU0, nU0⟩
      have g25 : Gd H2 H5 := g3.trans (g4.trans e5.gd)
      have hBb5 := g25.1 _ _ (np_refs _) hBb
      have hT5 := e5 _ _ hT
      -- what is used
      refine ⟨fun σ H6 => ∃ (U : Addr) (u : List Int) (v12 : Option V), σ = [some (.ref p), some (.int N), some (.int e), some (.ref nm), some (.bl sk), some (.ref Nn), some (.ref Bb), some (.int i), some (.int g), some (.int wd), some (.ref Tt), some (.ref U), v12, v13, v14, none, none] ∧ Same H5 H6 ∧ H6 U = some (.lst (u.map V.int)) ∧ U ≠ Nn ∧ U ≠ Bb ∧ u.length ≤ 3 * (3 ^ i - 1) ∧ ∀ t ∈ r, 0 ≤ t → ∃ b', bels[(t - g - 1).toNat]? = some b' ∧ ∀ z ∈ b', z ∈ u, ?_, ?_⟩
      · have nUN : ∀ {X : Addr}, H5 X = none → X ≠ Nn ∧ X ≠ Bb := fun h => ⟨(ne_of_none (g25.1 _ _ (np_refs _) hNn) h).symm, (ne_of_none hBb5 h).symm⟩
        have nU0N : U0 ≠ Nn ∧ U0 ≠ Bb := ⟨(ne_of_none ((g3.trans g4).1 _ _ (np_refs _) hNn) nU0).symm, (ne_of_none ((g3.trans g4).1 _ _ (np_refs _) hBb) nU0).symm⟩
        refine ⟨_, rfl, Tt, rfl, ⟨_, lst_of hT5⟩, for_list (K := K) (a := Tt) (xs := r.map V.int) (fun i2 σ H6 => ∃ (U : Addr) (u : List Int) (v12 : Option V), σ = [some (.ref p), some (.int N), some (.int e), some (.ref nm), some (.bl sk), some (.ref Nn), some (.ref Bb), some (.int i), some (.int g), some (.int wd), some (.ref Tt), some (.ref U), v12, v13, v14, none, none] ∧ Same H5 H6 ∧ H6 U = some (.lst (u.map V.int)) ∧ U ≠ Nn ∧ U ≠ Bb ∧ u.length ≤ i2 * (3 ^ i - 1) ∧ ∀ t ∈ r.take i2, 0 ≤ t → ∃ b', bels[(t - g - 1).toNat]? = some b' ∧ ∀ z ∈ b', z ∈ u)
          ⟨U0, [], _, rfl, Same.refl _, hU0, nU0N.1, nU0N.2, by simp, fun _ h => (nomatch h)⟩ (fun i2 σ H6 _ ⟨_, _, _, _, e, _⟩ => lst_of (e _ _ hT5)) ?_ ?_⟩
        · rintro i2 y σ H6 hi2 ⟨U, u, v12, rfl, e6, hU, u1, u2, hul, hut⟩
          obtain ⟨t, htt, rfl⟩ := get_map_int hi2
          obtain ⟨t1, t2, t3⟩ := hrt t (List.mem_of_getElem? htt)
          have hi3 : i2 < r.length := (List.getElem?_eq_some_iff.mp htt).1
          refine ⟨_, rfl, _, _, rfl, rfl, _, rfl, ite2 (fun h => ?_) (fun h => ?_)⟩
          · have h : 0 ≤ t := of_decide_eq_true h
            obtain ⟨d, hd⟩ : ∃ d : Nat, t - g - 1 = (d : Int) := ⟨(t - g - 1).toNat, by have : ¬ t ≤ g := fun q => t3 ⟨h, q⟩; omega⟩
            have hdb : d < bs.length := by omega
            have hlb := hgs.len
            have hdl : d < bels.length := by omega
            have hbd : bs[d]? = some bs[d] := List.getElem?_eq_getElem hdb
            have hld : bels[d]? = some bels[d] := List.getElem?_eq_getElem hdl
            obtain ⟨hb1, hb2, _, _⟩ := hbs d _ _ hbd hld
            have hb6 := (g25.trans e6.gd).1 _ _ (np_ints _) hb1
            refine ⟨_, rfl, _, rfl, _, rfl, _, rfl, _, _, rfl, rfl, _, _, rfl, rfl, Bb, _, _, .ref bs[d], rfl, rfl, lst_of (e6 _ _ hBb5), ?_, ?_⟩
            · rw [hd]
              exact atI_nat (by rw [List.getElem?_map, hbd]; rfl)
            refine ⟨U, bs[d], _, _, rfl, rfl, hU, hb6, ?_, fun q nq => ?_⟩
            · rw [List.length_map, List.length_map, sizeLine_eq]
              have : i2 * (3 ^ i - 1) ≤ 2 * (3 ^ i - 1) := Nat.mul_le_mul_right _ (by omega)
              omega
            · have nq5 := nUN (e6.free nq)
              refine ⟨q, u ++ bels[d], _, rfl, e6.trans (same_upd nq), by rw [upd_same, List.map_append], nq5.1, nq5.2, ?_, fun t' ht' t0' => ?_⟩
              · rw [List.length_append, Nat.succ_mul]
                omega
              · rw [take_get htt] at ht'
                rcases List.mem_append.mp ht' with m | m
                · obtain ⟨b', h1, h2⟩ := hut t' m t0'
                  exact ⟨b', h1, fun z hz => List.mem_append.mpr (.inl (h2 z hz))⟩
                · rw [List.mem_singleton.mp m, hd, Int.toNat_natCast]
                  exact ⟨_, hld, fun z hz => List.mem_append.mpr (.inr hz)⟩
          · refine ⟨U, u, _, rfl, e6, hU, u1, u2, by rw [Nat.succ_mul]; omega, fun t' ht' t0' => ?_⟩
            rw [take_get htt] at ht'
            rcases List.mem_append.mp ht' with m | m
            · exact hut t' m t0'
            · rw [List.mem_singleton.mp m] at t0'
              exact absurd (decide_eq_true t0') h
        · rintro σ H6 ⟨U, u, v12, rfl, e6, hU, u1, u2, hul, hut⟩
          rw [List.length_map, List.take_length] at *
          exact ⟨U, u, v12, rfl, e6, hU, u1, u2, Nat.le_trans hul (Nat.mul_le_mul_right _ (by omega)), hut⟩
      rintro σ H6 ⟨U, u, v12, rfl, e6, hU, u1, u2, hul, hut⟩
      have g26 := g25.trans e6.gd
      have hnm6 := g26.1 _ _ (np_ints _) hnm1
      have p6 := p4.same (e5.trans e6)
      -- what is free
      refine ⟨fun σ H7 => ∃ F : Addr, σ = [some (.ref p), some (.int N), some (.int e), some (.ref nm), some (.bl sk), some (.ref Nn), some (.ref Bb), some (.int i), some (.int g), some (.int wd), some (.ref Tt), some (.ref U), v12, some (.ref F), v14, none, none] ∧ Same H6 H7 ∧ H7 F = some (.lst ((nms.filter fun x => !decide (x ∈ u)).map V.int)), ?_, ?_⟩
      · refine ⟨_, rfl, nm, rfl, ⟨_, lst_of hnm6⟩, fun D nD => lcL_filter (K := K) (ns := nms) (fun x => !decide (x ∈ u)) (lst_of hnm6) nD (by omega) (fun _ => rfl) ?_ ?_ ?_⟩
        · intro z hz H' e' R r
          exact ⟨_, rfl, _, rfl, in_k (neg := true) (.inl (lst_of (e' _ _ hU))) ⟨_, rfl, r⟩⟩
        · intro z hz H' e' R r
          exact ⟨_, rfl, r⟩
        · intro H7 e7 h7
          exact ⟨D, rfl, e7, h7⟩
      rintro σ H7 ⟨F, rfl, e7, hF⟩
      have g27 := g26.trans e7.gd
      -- none is free
      refine ⟨fun σ H8 => ∃ (Tt U F : Addr) (r u fr : List Int), σ = [some (.ref p), some (.int N), some (.int e), some (.ref nm), some (.bl sk), some (.ref Nn), some (.ref Bb), some (.int i), some (.int g), some (.int wd), some (.ref Tt), some (.ref U), v12, some (.ref F), v14, none, none] ∧ Gd H7 H8 ∧ PoolOk K p (c + 60 * i + 40) H8 ∧ H8 Tt = some (.lst (r.map V.int)) ∧ r.length = wd ∧ H8 U = some (.lst (u.map V.int)) ∧ U ≠ Nn ∧ U ≠ Bb ∧ u.length ≤ 3 * (3 ^ i - 1) ∧ H8 F = some (.lst (fr.map V.int)) ∧ fr ≠ [] ∧ fr.length ≤ 48 ∧ (∀ q ∈ fr, q ∈ nms ∧ q ∉ u) ∧ ∀ t ∈ r, TgtOk e N g t ∧ (0 ≤ t → ∃ b', bels[(t - g - 1).toNat]? = some b' ∧ ∀ z ∈ b', z ∈ u), ?_, ?_⟩
      · refine ⟨_, rfl, by show 0 ≤ sizeLine; decide, fun q nq => ?_⟩
        have e8 := same_upd nq (o := .lst [])
        refine eqD_lst (ns := nms.filter fun x => !decide (x ∈ u)) (ms := []) (lst_of (e8 _ _ hF)) (lst_of upd_same) ⟨_, rfl, ite2 (fun h => ?_) (fun h => ?_)⟩
        · have p8 := (p6.same e7).same e8
          refine ⟨_, rfl, _, rfl, by omega, by omega, fun D nD => ?_⟩
          rw [Int.toNat_natCast]
          refine lc_range (lo := 0) (n := wd) (fun j H4 => ∃ r : List Int, H4 D = some (.lst (r.map V.int)) ∧ r.length = j ∧ (∀ t ∈ r, TgtOk e N g t ∧ t < 0) ∧ Gd (upd H7 q (.lst [])) H4 ∧ PoolOk K p (c + 60 * i + 20 + j) H4) ⟨[], upd_same, rfl, fun _ h => (nomatch h), (same_upd nD).gd, p8.upd nD⟩ (fun j H4 hj h => ?_) (fun H4 h => ?_)
          · obtain ⟨r, hD, hrl2, hrt, g4, p4⟩ := h
            refine ⟨rfl, tyes ?_⟩
            refine ⟨_, rfl, _, rfl, _, rfl, p, c + 60 * i + 20 + j, e, rfl, p4, by omega, by omega, Int.lt_of_le_of_lt e2 (by decide), fun H5 t g5 p5 t0 t1 => ⟨_, _, rfl, rfl, ?_⟩⟩
            have hD5 := g5.1 _ _ (np_ints r) hD
            refine ⟨_, hD5, by rw [List.length_map, sizeLine_eq]; omega, r ++ [-1 - t], by rw [upd_same, List.map_append]; rfl, by rw [List.length_append, hrl2]; rfl, fun y hy => ?_, (g4.trans g5).mut nD, (p5.mut hD5 (np_ints r)).mono (by omega)⟩
            rcases List.mem_append.mp hy with hy | hy
            · exact hrt y hy
            · rw [List.mem_singleton.mp hy]; exact ⟨⟨by omega, by omega, by omega⟩, by omega⟩
          · obtain ⟨r, hD, hrl2, hrt, g9, p9⟩ := h
            refine ⟨fun σ H9 => ∃ U : Addr, σ = [some (.ref p), some (.int N), some (.int e), some (.ref nm), some (.bl sk), some (.ref Nn), some (.ref Bb), some (.int i), some (.int g), some (.int wd), some (.ref D), some (.ref U), v12, some (.ref F), v14, none, none] ∧ Same H4 H9 ∧ H9 U = some (.lst []) ∧ H4 U = none, ?_, ?_⟩
            · exact ⟨by show 0 ≤ sizeLine; decide, fun U nU => ⟨U, rfl, same_upd nU, upd_same, nU⟩⟩
            rintro σ H9 ⟨U', rfl, e9, hU', nU'⟩
            have gg := g27.trans (e8.gd.trans g9)
            refine ⟨_, rfl, D, U', nm, r, [], nms, rfl, (e8.gd.trans g9).trans e9.gd, (p9.same e9).mono (by omega), e9 _ _ hD, hrl2, hU', (ne_of_none (gg.1 _ _ (np_refs _) hNn) nU').symm, (ne_of_none (gg.1 _ _ (np_refs _) hBb) nU').symm, by simp, (gg.trans e9.gd).1 _ _ (np_ints _) hnm1, hne, hnl, fun q hq => ⟨hq, by simp⟩, fun t ht => ⟨(hrt t ht).1, fun t0 => absurd t0 (by have := (hrt t ht).2; omega)⟩⟩
        · have hfl := List.length_filter_le (fun x => !decide (x ∈ u)) nms
          refine ⟨Tt, U, F, r, u, _, rfl, e8.gd, ((p6.same e7).same e8).mono (by omega), ((e5.trans e6).trans (e7.trans e8)) _ _ hT, hrl4, (e7.trans e8) _ _ hU, u1, u2, hul, e8 _ _ hF, fun hh => h (decide_eq_true hh), by omega, fun q hq => ?_, fun t ht => ⟨hrt t ht, hut t ht⟩⟩
          obtain ⟨h1, h2⟩ := List.mem_filter.mp hq
          exact ⟨h1, by simpa using h2⟩
      rintro σ H8 ⟨Tt, U, F, r, u, fr, rfl, g8, p8, hT8, hr8, hU8, u1, u2, hul, hF8, hfne, hfl, hfr, hrt⟩
      have g28 := g27.trans g8
      -- the question
      refine ⟨fun σ H9 => ∃ qq : Int, σ = [some (.ref p), some (.int N), some (.int e), some (.ref nm), some (.bl sk), some (.ref Nn), some (.ref Bb), some (.int i), some (.int g), some (.int wd), some (.ref Tt), some (.ref U), v12, some (.ref F), some (.int qq), none, none] ∧ qq ∈ fr ∧ Gd H8 H9 ∧ PoolOk K p (c + 60 * i + 41) H9, ?_, ?_⟩
      · have hf0 : 0 < fr.length := List.length_pos_iff.mpr hfne
        refine ⟨_, rfl, _, rfl, _, rfl, F, _, rfl, .inl (lst_of hF8), p, _, _, rfl, p8, by omega, by rw [List.length_map]; omega, by rw [List.length_map]; exact Int.lt_of_le_of_lt (show (fr.length : Int) ≤ 48 by omega) (by decide), fun H9 z g9 p9 z0 z1 => ?_⟩
        rw [List.length_map] at z1
        obtain ⟨y, hy, ay⟩ := at_int (l := fr) z0 z1
        exact ⟨F, _, _, _, rfl, rfl, lst_of (g9.1 _ _ (np_ints _) hF8), ay, y, rfl, hy, g9, p9⟩
      rintro σ H9 ⟨qq, rfl, hqq, g9, p9⟩
      have g29 := g28.trans g9
      have hT9 := g9.1 _ _ (np_ints _) hT8
      have hU9 := g9.1 _ _ (np_ints _) hU8
      have hNn9 := g29.1 _ _ (np_refs _) hNn
      have hBb9 := g29.1 _ _ (np_refs _) hBb
      have hrows9 := hrows.gd g29
      have has : as.length = i := by rw [hrows.1]; exact hrl
      -- the node
      refine ⟨fun σ H10 => ∃ nd : Addr, σ = [some (.ref p), some (.int N), some (.int e), some (.ref nm), some (.bl sk), some (.ref Nn), some (.ref Bb), some (.int i), some (.int g), some (.int wd), some (.ref Tt), some (.ref U), v12, some (.ref F), some (.int qq), none, none] ∧ H10 Nn = some (.lst ((nd :: as).map V.ref)) ∧ H10 nd = some (.tup ((qq :: r).map V.int)) ∧ ∀ b o, b ≠ Nn → H9 b = some o → H10 b = some o, ?_, ?_⟩
      · refine ⟨_, rfl, .inl ⟨rfl, _, lst_of hNn9⟩, _, rfl, by show 1 ≤ sizeLine; decide, fun s1 n1 => ?_⟩
        have f1 := same_upd n1 (o := .lst [.int qq])
        refine ⟨_, rfl, s1, Tt, _, _, rfl, rfl, upd_same, f1 _ _ hT9, by rw [List.length_map, sizeLine_eq]; show 1 + _ ≤ _; omega, fun s2 n2 => ?_⟩
        have f2 := same_upd n2 (o := .lst ([.int qq] ++ r.map V.int))
        refine ⟨s2, _, rfl, .inl ⟨lst_of upd_same, fun nd nnd => ?_⟩⟩
        have f3 := (f1.trans f2).trans (same_upd nnd (o := .tup ([.int qq] ++ r.map V.int)))
        have hNn10 := f3 _ _ hNn9
        have ndN : nd ≠ Nn := (ne_of_none ((f1.trans f2) _ _ hNn9) nnd).symm
        refine ⟨Nn, _, 0, .ref nd, rfl, rfl, hNn10, by rw [List.length_map, sizeLine_eq]; omega, by decide, by decide, nd, rfl, by rw [upd_same]; rfl, by rw [upd_ne ndN, upd_same]; rfl, fun b o nb hb => by rw [upd_ne nb]; exact f3 _ _ hb⟩
      rintro σ H10 ⟨nd, rfl, hNn10, hnd, k10⟩
      have hBb10 := k10 _ _ nNB.symm hBb9
      have hU10 := k10 _ _ u1 hU9
      have g10 : Gd H H10 := (g1.trans g29).but nNn k10
      have p10 := p9.but hNn9 (np_refs _) k10
      have hw : r.length ≤ 3 := by omega
      refine ⟨_, rfl, .inl ⟨rfl, _, lst_of hBb10⟩, _, rfl, _, rfl, by show 1 ≤ sizeLine; decide, fun s1 n1 => ?_⟩
      have f1 := same_upd n1 (o := .lst [.int qq])
      refine ⟨U, s1, _, _, rfl, rfl, f1 _ _ hU10, upd_same, by rw [List.length_map, sizeLine_eq]; show _ + 1 ≤ _; omega, fun bn nbn => ?_⟩
      have f2 := f1.trans (same_upd nbn (o := .lst (u.map V.int ++ [.int qq])))
      have hBb11 := f2 _ _ hBb10
      have bnB : bn ≠ Bb := (ne_of_none (f1 _ _ hBb10) nbn).symm
      have bnN : bn ≠ Nn := (ne_of_none (f1 _ _ hNn10) nbn).symm
      refine ⟨Bb, _, 0, .ref bn, rfl, rfl, hBb11, by rw [List.length_map, sizeLine_eq]; omega, by decide, by decide, ?_⟩
      refine ⟨_, _, _, _, _, _, _, _, nd :: as, (qq :: r) :: rows, bn :: bs, (u ++ [qq]) :: bels, rfl, ?_⟩
      have tupB : ∀ {b : Addr} {zs : List V}, H10 b = some (.tup zs) → b ≠ Bb := fun h => ne_of h hBb10 (by intro z; cases z)
      have tupN : ∀ {b : Addr} {zs : List V}, H9 b = some (.tup zs) → b ≠ Nn := fun h => ne_of h hNn9 (by intro z; cases z)
      refine ⟨by rw [upd_ne nNB]; exact f2 _ _ hNn10, by rw [upd_same]; rfl, ⟨by rw [List.length_cons, List.length_cons, hrows.1], fun j b row h1 h2 => ?_⟩, by rw [List.length_cons, hrl], by rw [List.length_cons, hbl], ⟨hgs, ?_⟩, fun j b l h1 h2 => ?_, ?_, ?_⟩
      · cases j with
        | zero =>
          obtain rfl : nd = b := Option.some.inj h1
          obtain rfl : qq :: r = row := Option.some.inj h2
          rw [upd_ne (tupB hnd)]
          exact f2 _ _ hnd
        | succ j =>
          have := hrows9.2 j b row h1 h2
          have t10 := k10 _ _ (tupN this) this
          rw [upd_ne (tupB t10)]
          exact f2 _ _ t10
      · rw [← hg]
        refine ⟨qq, r, rfl, by omega, (hfr qq hqq).1, List.mem_append.mpr (.inr (List.mem_singleton.mpr rfl)), fun t ht => ⟨(hrt t ht).1, fun t0 => ?_⟩⟩
        obtain ⟨b', h1, h2⟩ := (hrt t ht).2 t0
        exact ⟨b', h1, fun hz => (hfr qq hqq).2 (h2 _ hz), fun z hz => List.mem_append.mpr (.inl (h2 z hz))⟩
      · cases j with
        | zero =>
          obtain rfl : bn = b := Option.some.inj h1
          obtain rfl : u ++ [qq] = l := Option.some.inj h2
          refine ⟨by rw [upd_ne bnB, upd_same, List.map_append]; rfl, ?_, bnN, bnB⟩
          rw [List.length_append, List.length_singleton, Nat.pow_succ]
          have : 0 < 3 ^ i := Nat.pow_pos (by decide)
          omega
        | succ j =>
          obtain ⟨b1, b2, b3, b4⟩ := hbs j b l h1 h2
          refine ⟨by rw [upd_ne b4]; exact f2 _ _ (k10 _ _ b3 (g29.1 _ _ (np_ints _) b1)), ?_, b3, b4⟩
          rw [Nat.pow_succ]
          omega
      · exact (g10.trans f2.gd).but nBb0 fun b o nb hb => by rw [upd_ne nb]; exact hb
      · exact ((p10.same f2).but hBb11 (np_refs _) fun b o nb hb => by rw [upd_ne nb]; exact hb).mono (by omega)
    · rintro σ H1 ⟨v7, v8, v9, v10, v11, v12, v13, v14, as, rows, bs, bels, rfl, hNn, hBb, hrows, hrl, hbl, hgs, hbs, g1, p1⟩
      exact ⟨_, rfl, k H1 Nn as rows bels nNn g1 (p1.mono (by omega)) hNn hrows hrl hgs⟩
theorem made {H2 : Hp} {q x dx : Addr} {bs : List Addr} {rows : List (List Int)} {e o : Int} {R : VK} {E : XK} {C : Addr} (hx : H2 x = none) (hd : H2 dx = none) (hdx : dx ≠ x) (hq : SqL K H2 q (bs.map V.ref)) (hl : bs.length = rows.length)
    (hr : ∀ (i : Nat) b row, bs[i]? = some b → rows[i]? = some row → RowIn H2 b row) (G : GoodW rows e o) (h : ∀ H3, WebAt C H3 x rows e o → Same H2 H3 → R .non H3) :
    spWebInit K C [.ref x, .ref q, .int e, .int o] (upd (upd H2 dx (.own x)) x (.ins C dx [])) R E := by
  have hx2 : upd H2 dx (.own x) x = none := by rw [upd_ne (fun z => hdx z.symm)]; exact hx
  have s := (same_upd hd (o := .own x)).trans (same_upd hx2 (o := .ins C dx []))
  refine ⟨x, dx, q, bs, rows, e, o, .int o, rfl, upd_same, s.seq hq, hl, fun i b row h1 h2 => (hr i b row h1 h2).same s, G, .inl rfl, fun H' hw keep => h H' hw fun b u hb => ?_⟩
  exact keep b u (ne_of_none hb hx) (s b u hb)
end
end K03

namespace K03
open PySem PySem.Spec PyProof.Rows L2
section
variable {P : Program} {w : World} {K : PySem.W.Frag} {mg : Str → Option Value} {base : Heap} {a : Ad}
theorem ok_NoPosition_init (T : Txt K mg a) : FnOk P w K mg base CX0 1 a.f_NoPosition_init a.d_NoPosition_init P_NoPosition_init (spErr a.c_NoPosition "place" okB) := by
  refine T.F_NoPosition_init.ok sc_NoPosition_init (fun vs H Q E h => ?_) (fun cdv A outer s H vs Q E hr h => ?_)
  · obtain ⟨x, v, rfl, _⟩ := h
    rfl
  · obtain ⟨x, v, rfl, ⟨i, rfl, hi⟩, hx, k⟩ := h
    refine ⟨_, (pss_cons (ps_expr (pe_binit T.bi_TestError (by rfl) T.g_TestError (pa_cons (pv 0) (pa_cons (pe_joined (PJ.cons (pe_fmt (pv 1)) (PJ.cons pe_str PJ.nil))) pa_nil))))
  (pss_one (ps_ost (pv 0) (pv 1)))), ?_⟩
    have hl := hi.len
    have c0 : Str.empty.length = 0 := rfl
    have c2 : (PySem.Str.ofString " is no position").length = 15 := by rw [PySem.ofString_length]; rfl
    refine ⟨_, rfl, ?_⟩
    refine ⟨_, rfl, .inr ⟨i, rfl, hi.log, _, rfl, by simp only [len_app, c0, c2, sizeLine_eq]; omega, ?_⟩⟩
    refine ⟨_, rfl, by simp only [len_app, c0, c2, sizeLine_eq]; omega, ?_⟩
    refine ⟨x, a.c_NoPosition, _, rfl, by show 1 ≤ 1000; decide, T.ox_NoPosition, hx, ?_⟩
    exact ⟨_, rfl, _, rfl, x, a.c_NoPosition, rfl, T.ox_NoPosition, T.nf_NoPosition_place, .inl ⟨hx, fun dx nd ne => k dx nd ne⟩⟩
/-- what holds before each turn of _led_to -/
structure Bf (rows : List (List Int)) (z : Int) (ks ws : List Int) : Prop where
  nd : ks.Nodup
  zin : z ∈ ks
  led : ∀ j ∈ ks, Led rows z j
  sub : ∀ j ∈ ws, j ∈ ks
  le : ws.length ≤ ks.length
  done : ∀ j ∈ ks, j ∈ ws ∨ ∀ q a b r, 0 ≤ j → rows[j.toNat]? = some (q :: a :: b :: r) → a ∈ ks ∧ b ∈ ks
theorem ok_Web_led_to (T : Txt K mg a) : FnOk P w K mg base (L2.CX P w) 3 a.f_Web_led_to a.d_Web_led_to P_Web_led_to (spLed K a.c_Web a.c_NoPosition) := by
  refine T.F_Web_led_to.okX sc_Web_led_to (fun vs H Q E h => ?_) (fun cdv A outer s H vs Q E hr h => ?_)
  · obtain ⟨x, rows, e, o, z, rfl, _⟩ := h
    rfl
  · obtain ⟨x, rows, e, o, z, rfl, ⟨dx, nt, as, hx, hnt, hrows⟩, G, bz, k, kx⟩ := h
    refine ⟨_, (Evl.pss_cut (ps_if (pt_cmpR (notIn_own (ok_Web_contains T) (hr.mono (by decide)) T.s_Web_contains T.i_Web_contains T.b_Web_contains pass0) (pv 1) (pv 0) (by with_unfolding_all rfl))
    (pss_one (ps_raise rfl (takes_of rfl rfl rfl rfl) (pmk_oex T.ox_NoPosition T.ii_NoPosition T.ti_NoPosition (ok_NoPosition_init T) (hr.mono (by decide)) T.b_NoPosition_init .nil pass0 (by rfl) T.g_NoPosition (pa_cons (pv 1) pa_nil))))
    pss_nil)
  (Evl.pss_cut (ps_set (i := 2) sc_Web_led_to.nd rfl (Or.inl rfl) (pe_disp (pps_cons (pv 1) pe_bl pps_nil) (by rfl) (by rfl) (fun z => by cases z) (by decide)))
  (Evl.pss_cut (ps_set (i := 3) sc_Web_led_to.nd rfl (Or.inl rfl) (pe_lst (pa_cons (pv 1) pa_nil)))
  (Evl.pss_cut (ps_while (passes_of rfl) (pt_truth (pv 3) (by intro _; rfl))
    (Evl.pss_cut (ps_set (i := 4) sc_Web_led_to.nd rfl (Or.inl rfl) (pe_bm0 PySem.F.plainAttrs_list PySem.F.slot_list_pop PySem.F.type_list_pop mt_pop (pv 3)))
  (Evl.pss_cut (ps_set (i := 5) sc_Web_led_to.nd rfl (Or.inl rfl) (pe_ifExp (pt_cmpR op_ge (pv 4) pe_int (nomark _)) (pe_slice sl_tupA (pe_ix ix_tup (pe_fld (pv 0) (by rfl)) (pv 4) (by intro _ _; rfl)) (po_some pe_int) (po_some pe_int)) (pe_tup pa_nil)))
  (pss_one (ps_for (passes_of rfl) rfl (pi_tup (pv 5)) (pg_name (i := 6) sc_Web_led_to.nd rfl (Or.inl rfl))
    (pss_one (ps_if (pt_cmp (pc_dnotin (hu_of hr) (pv 6) (pv 2)))
    (pss_cons (ps_dput (hu_of hr) (pv 2) (pv 6) pe_bl rfl)
  (pss_one (ps_expr (pe_bm PySem.F.plainAttrs_list PySem.F.slot_list_append PySem.F.type_list_append mt_append (pv 3) (pa_cons (pv 6) pa_nil)))))
    pss_nil)))))))
  (pss_one (ps_ret (pe_callTy (call_list_dK rfl) (by rfl) T.z_list (by decide +kernel) (pa_cons (pv 2) pa_nil)))))))), ?_⟩
    have elen : (as.map V.ref).length = rows.length := by rw [List.length_map, hrows.1]
    have ge1 := G.e1
    have ge2 := G.e2
    have gl := G.len
    -- is it a position
    refine ⟨fun σ H1 => (-e ≤ z ∧ z < rows.length) ∧ σ = [some (.ref x), some (.int z), none, none, none, none, none] ∧ H1 = H, ?_, ?_⟩
    · refine ⟨_, rfl, _, rfl, x, dx, _, rfl, hx, x, dx, _, nt, _, e, z, rfl, hx, rfl, rfl, hnt, _, rfl, ?_⟩
      rw [elen]
      refine ⟨_, rfl, ?_⟩
      by_cases hz : -e ≤ z ∧ z < rows.length
      · rw [decide_eq_true hz]
        exact iteF ⟨hz, rfl, rfl⟩
      · rw [decide_eq_false hz]
        refine iteT ?_
        exact ⟨_, rfl, err_make ⟨z, rfl, bz⟩ fun d nd => kx hz d _ nd (same_upd nd) upd_same⟩
    rintro σ H1 ⟨hz, rfl, rfl⟩
    refine ⟨fun σ H2 => ∃ F, σ = [some (.ref x), some (.int z), some (.ref F), none, none, none, none] ∧ H1 F = none ∧ H2 F = some (.dK (dTrue [z])) ∧ Same H1 H2, ?_, ?_⟩
    · refine fun F nF => ⟨_, rfl, ?_⟩
      exact ⟨upd_same, [(Sum.inl z, V.bl true)], rfl, by simp, F, rfl, nF, by rw [upd_same]; rfl, (same_upd nF).mut nF⟩
    rintro σ H2 ⟨F, rfl, nF, hF, f2⟩
    refine ⟨fun σ H3 => ∃ W, σ = [some (.ref x), some (.int z), some (.ref F), some (.ref W), none, none, none] ∧ H1 W = none ∧ W ≠ F ∧ H3 F = some (.dK (dTrue [z])) ∧ H3 W = some (.lst ([z].map V.int)) ∧ Same H1 H3, ?_, ?_⟩
    · exact ⟨_, rfl, by show 1 ≤ sizeLine; decide, fun W nW => ⟨W, rfl, f2.free nW, (ne_of_none hF nW).symm, (same_upd nW) _ _ hF, upd_same, f2.trans (same_upd nW)⟩⟩
    rintro σ H3 ⟨W, rfl, nW, hWF, hF, hW, f3⟩
    -- the turns
    refine ⟨fun σ H4 => ∃ v4 v5 v6 ks, σ = [some (.ref x), some (.int z), some (.ref F), some (.ref W), v4, v5, v6] ∧ Same H1 H4 ∧ H4 F = some (.dK (dTrue ks)) ∧ Bf rows z ks [], ?_, ?_⟩
    · refine while_by (fun σ H4 => ∃ v4 v5 v6 ks ws, σ = [some (.ref x), some (.int z), some (.ref F), some (.ref W), v4, v5, v6] ∧ Same H1 H4 ∧ H4 F = some (.dK (dTrue ks)) ∧ H4 W = some (.lst (ws.map V.int)) ∧ Bf rows z ks ws) (fun σ H4 => 2 * (e.toNat + rows.length - lenD (H4 F)) + lenL (H4 W)) ?_ ?_ (fun σ H4 Q Q' h ⟨v, e1, kk, t, q⟩ => ⟨v, e1, kk, t, h _ _ q⟩)
      · refine ⟨_, _, _, [z], [z], rfl, f3, hF, hW, ⟨by simp, List.mem_singleton.mpr rfl, fun j hj => ?_, fun j hj => hj, Nat.le_refl _, fun j hj => .inl hj⟩⟩
        rw [List.mem_singleton.mp hj]
        exact .refl
      rintro σ H4 ⟨v4, v5, v6, ks, ws, rfl, f4, hF4, hW4, B⟩
      refine ⟨_, rfl, _, .inl ⟨_, lst_of hW4, rfl⟩, ?_⟩
      rcases List.eq_nil_or_concat ws with rfl | ⟨ws, pl, rfl⟩
      · exact iteF ⟨_, _, _, ks, rfl, f4, hF4, B⟩
      rw [List.concat_eq_append] at hW4 B ⊢
      have kT : ∀ (ks : List Int), ks.Nodup → (∀ j ∈ ks, Led rows z j) → ks.length ≤ e.toNat + rows.length := fun ks nd hl => by
        have := nodup_le ks (posL e.toNat rows.length) nd fun j hj => by
          obtain ⟨b1, b2⟩ := (hl j hj).bounds G hz.1 hz.2
          exact mem_pos (by omega) b2
        rw [pos_len] at this
        exact this
      have kl := kT ks B.nd B.led
      have lD : lenD (H4 F) = ks.length := by rw [hF4]; simp [lenD, dTrue]
      have lL : lenL (H4 W) = ws.length + 1 := by rw [hW4]; simp [lenL]
      have tr : (!((ws ++ [pl]).map V.int).isEmpty) = true := by cases ws <;> rfl
      rw [tr]
      refine iteT ?_
      have hwl : ws.length + 1 ≤ ks.length := by have := B.le; rw [List.length_append, List.length_singleton] at this; exact this
      have hplk : pl ∈ ks := B.sub pl (List.mem_append.mpr (.inr (List.mem_singleton.mpr rfl)))
      have hpb := (B.led pl hplk).bounds G hz.1 hz.2
      -- the last one
      refine ⟨fun σ H5 => σ = [some (.ref x), some (.int z), some (.ref F), some (.ref W), some (.int pl), v5, v6] ∧ Same H1 H5 ∧ H5 F = some (.dK (dTrue ks)) ∧ H5 W = some (.lst (ws.map V.int)), ?_, ?_⟩
      · refine ⟨_, rfl, .inl ⟨rfl, _, lst_of hW4⟩, W, _, .int pl, rfl, rfl, hW4, ?_, rfl, f4.mut nW, by rw [upd_ne hWF.symm]; exact hF4, ?_⟩
        · rw [List.map_append, List.length_append, List.getElem?_append_right (by simp)]
          simp
        · rw [upd_same, List.map_append]
          simp
      rintro σ H5 ⟨rfl, f5, hF5, hW5⟩
      -- its targets
      refine ⟨fun σ H6 => ∃ (tv : Addr) (ts : List Int), σ = [some (.ref x), some (.int z), some (.ref F), some (.ref W), some (.int pl), some (.ref tv), v6] ∧ Same H5 H6 ∧ H6 tv = some (.tup (ts.map V.int)) ∧ (∀ t ∈ ts, Led rows z t) ∧ (∀ q a b r, 0 ≤ pl → rows[pl.toNat]? = some (q :: a :: b :: r) → a ∈ ts ∧ b ∈ ts), ?_, ?_⟩
      · refine ⟨_, rfl, _, _, rfl, rfl, _, rfl, ?_⟩
        by_cases h0 : (0 : Int) ≤ pl
        · rw [decide_eq_true h0]
          obtain ⟨n, rfl⟩ : ∃ n : Nat, pl = (n : Int) := ⟨pl.toNat, by omega⟩
          obtain ⟨an, row, han, hrn, hrw⟩ := rows_get (hrows.same f5) (show n < rows.length by omega)
          obtain ⟨q, a', b', r, rfl, _⟩ := G.two hrn
          refine iteT ⟨_, rfl, x, _, dx, _, _, rfl, f5 _ _ hx, T.cl_Web, T.nA_Web_nodes, rfl, _, rfl, nt, _, (n : Int), _, rfl, rfl, tup_of (f5 _ _ hnt), at_tup (by rw [List.getElem?_map, han]; rfl), _, rfl, _, rfl, mid_row hrw fun tv ntv => ⟨tv, [a', b'], rfl, same_upd ntv, upd_same, fun t ht => ?_, fun q2 a2 b2 r2 _ h2 => ?_⟩⟩
          · have hl := B.led _ hplk
            refine .step hl h0 (by rw [Int.toNat_natCast]; exact hrn) ?_
            rcases List.mem_cons.mp ht with h | h
            · exact .inl h
            · exact .inr (List.mem_singleton.mp h)
          · rw [Int.toNat_natCast, hrn] at h2
            simp only [Option.some.injEq, List.cons.injEq] at h2
            obtain ⟨_, rfl, rfl, _⟩ := h2
            exact ⟨List.mem_cons_self, List.mem_cons_of_mem _ List.mem_cons_self⟩
        · rw [decide_eq_false h0]
          exact iteF ⟨by show 0 ≤ sizeLine; decide, fun tv ntv => ⟨tv, [], rfl, same_upd ntv, upd_same, fun t ht => (nomatch ht), fun _ _ _ _ h => absurd h h0⟩⟩
      rintro σ H6 ⟨tv, ts, rfl, f6, htv, htl, hta⟩
      have g6 := f5.trans f6
      have hF6 := f6 _ _ hF5
      have hW6 := f6 _ _ hW5
      have tvF : tv ≠ F := ne_of htv hF6 (by intro z; cases z)
      have tvW : tv ≠ W := ne_of htv hW6 (by intro z; cases z)
      refine ⟨_, rfl, tv, rfl, ⟨_, tup_of htv⟩, for_tup (K := K) (a := tv) (xs := ts.map V.int) (fun i σ H7 => ∃ v6 ks' ws', σ = [some (.ref x), some (.int z), some (.ref F), some (.ref W), some (.int pl), some (.ref tv), v6] ∧ Same H1 H7 ∧ H7 tv = some (.tup (ts.map V.int)) ∧ H7 F = some (.dK (dTrue ks')) ∧ H7 W = some (.lst (ws'.map V.int)) ∧ ks'.Nodup ∧ (∀ j ∈ ks, j ∈ ks') ∧ (∀ j ∈ ks', Led rows z j) ∧ (∀ j ∈ ws', j ∈ ks') ∧ (∀ j ∈ ks', j ∈ ws' ∨ j = pl ∨ ∀ q a b r, 0 ≤ j → rows[j.toNat]? = some (q :: a :: b :: r) → a ∈ ks' ∧ b ∈ ks') ∧ (∀ t ∈ ts.take i, t ∈ ks') ∧ ws'.length + ks.length = ws.length + ks'.length ∧ ks.length ≤ ks'.length)
        ⟨_, ks, ws, rfl, g6, htv, hF6, hW6, B.nd, fun j hj => hj, B.led, fun j hj => B.sub j (List.mem_append.mpr (.inl hj)), fun j hj => ?_, fun _ h => (nomatch h), rfl, Nat.le_refl _⟩ (fun i σ H7 _ ⟨_, _, _, _, _, h, _⟩ => tup_of h) ?_ ?_⟩
      · rcases B.done j hj with h | h
        · rcases List.mem_append.mp h with h | h
          · exact .inl h
          · exact .inr (.inl (List.mem_singleton.mp h))
        · exact .inr (.inr h)
      · rintro i y σ H7 hi ⟨v6, ks', ws', rfl, f7, htv7, hF7, hW7, nd, hks, hled, hws, hcl, htk, hln, hle⟩
        obtain ⟨t, ht, rfl⟩ := get_map_int hi
        have htm := List.mem_of_getElem? ht
        refine ⟨_, rfl, _, rfl, F, _, rfl, .inl ⟨_, Sum.inl t, .inl hF7, rfl, rfl⟩, _, rfl, ?_⟩
        rw [valV_dTrue]
        by_cases hin : t ∈ ks'
        · rw [if_pos hin]
          refine iteF ⟨_, ks', ws', rfl, f7, htv7, hF7, hW7, nd, hks, hled, hws, hcl, fun u hu => ?_, hln, hle⟩
          rw [take_get ht] at hu
          rcases List.mem_append.mp hu with hu | hu
          · exact htk u hu
          · rw [List.mem_singleton.mp hu]; exact hin
        · rw [if_neg hin]
          refine iteT ?_
          have kl' := kT ks' nd hled
          have sz : (dTrue ks').length < sizeLine := by unfold dTrue; rw [List.length_map, sizeLine_eq]; omega
          refine ⟨_, rfl, _, rfl, F, _, rfl, .inl ⟨_, Sum.inl t, hF7, rfl, sz, rfl⟩, ?_⟩
          rw [put_dTrue hin]
          have hW8 : upd H7 F (.dK (dTrue (ks' ++ [t]))) W = some (.lst (ws'.map V.int)) := by rw [upd_ne hWF]; exact hW7
          refine ⟨_, rfl, .inl ⟨rfl, _, lst_of hW8⟩, _, rfl, W, _, _, rfl, rfl, hW8, by rw [List.length_map, sizeLine_eq]; omega, _, ks' ++ [t], ws' ++ [t], rfl, (f7.mut nF).mut nW, by rw [upd_ne tvW, upd_ne tvF]; exact htv7, by rw [upd_ne hWF.symm, upd_same], by rw [upd_same, List.map_append]; rfl, ?_, fun j hj => List.mem_append.mpr (.inl (hks j hj)), fun j hj => ?_, fun j hj => ?_, fun j hj => ?_, fun u hu => ?_, by rw [List.length_append, List.length_append, List.length_singleton]; omega, by rw [List.length_append]; omega⟩
          · exact nd_snoc nd hin
          · rcases List.mem_append.mp hj with hj | hj
            · exact hled j hj
            · rw [List.mem_singleton.mp hj]; exact htl t htm
          · rcases List.mem_append.mp hj with hj | hj
            · exact List.mem_append.mpr (.inl (hws j hj))
            · exact List.mem_append.mpr (.inr hj)
          · rcases List.mem_append.mp hj with hj | hj
            · rcases hcl j hj with h | h | h
              · exact .inl (List.mem_append.mpr (.inl h))
              · exact .inr (.inl h)
              · exact .inr (.inr fun q a b r j0 hr => ⟨List.mem_append.mpr (.inl (h q a b r j0 hr).1), List.mem_append.mpr (.inl (h q a b r j0 hr).2)⟩)
            · exact .inl (List.mem_append.mpr (.inr hj))
          · rw [take_get ht] at hu
            rcases List.mem_append.mp hu with hu | hu
            · exact List.mem_append.mpr (.inl (htk u hu))
            · exact List.mem_append.mpr (.inr hu)
      · rintro σ H7 ⟨v6, ks', ws', rfl, f7, htv7, hF7, hW7, nd, hks, hled, hws, hcl, htk, hln, hle⟩
        rw [List.length_map, List.take_length] at htk
        have kl' := kT ks' nd hled
        refine ⟨⟨_, _, _, ks', ws', rfl, f7, hF7, hW7, ⟨nd, hks _ B.zin, hled, hws, by omega, fun j hj => ?_⟩⟩, ?_⟩
        · rcases hcl j hj with h | rfl | h
          · exact .inl h
          · exact .inr fun q a b r j0 hr => ⟨htk _ (hta q a b r j0 hr).1, htk _ (hta q a b r j0 hr).2⟩
          · exact .inr h
        · have l1 : lenD (H7 F) = ks'.length := by rw [hF7]; simp [lenD, dTrue]
          have l2 : lenL (H7 W) = ws'.length := by rw [hW7]; simp [lenL]
          rw [l1, l2, lD, lL]
          omega
    rintro σ H4 ⟨v4, v5, v6, ks, rfl, f4, hF4, B⟩
    refine ⟨_, rfl, F, _, rfl, hF4, fun D nD => ?_⟩
    rw [keys_dTrue]
    refine k hz _ D ks (f4.trans (same_upd nD)) upd_same (fun j => ⟨fun hj => B.led j hj, fun hj => ?_⟩) B.nd
    exact hj.sub B.zin fun j q a b r hj j0 hr => ((B.done j hj).elim (fun h => (nomatch h)) fun h => h q a b r j0 hr)
end
end K03

namespace K03
open PySem PySem.Spec PyProof.Rows L2
section
variable {P : Program} {w : World} {K : PySem.W.Frag} {mg : Str → Option Value} {base : Heap} {a : Ad}
theorem led_len {rows : List (List Int)} {e o z : Int} (G : GoodW rows e o) (hz : -e ≤ z ∧ z < rows.length) {l : List Int} (nd : l.Nodup) (hl : ∀ j, j ∈ l ↔ Led rows z j) : l.length ≤ 460 := by
  have g1 := G.e1
  have g2 := G.e2
  have gl := G.len
  have := nodup_le l (posL e.toNat rows.length) nd fun j hj => by
    obtain ⟨b1, b2⟩ := ((hl j).mp hj).bounds G hz.1 hz.2
    exact mem_pos (by omega) b2
  rw [pos_len] at this
  omega
theorem cap48 {c : Nat} {acc : List Int} (hr : ∀ x ∈ acc, 0 ≤ x ∧ x < 48) (hL : ∀ L : List Int, (∀ k ∈ acc, k ∈ L) → c ≤ L.length) : c < 64 := by
  have := hL ask48 fun k hk => mem_ask.mpr (hr k hk)
  have l48 : ask48.length = 48 := by unfold ask48; rw [List.length_map, List.length_range]
  omega
theorem ok_Web_asked (T : Txt K mg a) : FnOk P w K mg base (L2.CX P w) 4 a.f_Web_asked a.d_Web_asked P_Web_asked (spAsked K a.c_Web a.c_NoPosition) := by
  refine T.F_Web_asked.okX sc_Web_asked (fun vs H Q E h => ?_) (fun cdv A outer s H vs Q E hr h => ?_)
  · obtain ⟨x, rows, e, o, z, rfl, _⟩ := h
    rfl
  · obtain ⟨x, rows, e, o, z, rfl, hw, G, hn, bz, k, kx⟩ := h
    refine ⟨_, (pss_one (ps_ret (pe_callTy call_tuple_of (by rfl) T.z_tuple (by decide +kernel) (pa_cons (pe_callB (cr_sortedSet rfl) (by rfl) T.z_sorted (by decide +kernel) (pa_cons (pe_callTy (cr_setOfL rfl) (by rfl) T.z_set (by decide +kernel) (pa_cons (pe_lc (own := [("place", 2)]) (g := gName 2) (tt := (tTest (tOp (rI0 fun i j => .bl (decide (j ≤ i))) (tVar 2) (tC (.int 0))))) (te := (tOp (rIxT K) (tOp (rIxT K) (tFld K (tVar 0) "nodes") (tVar 2)) (tC (.int 0)))) rfl sc_Web_asked.nd (pi_list (pe_methT (pv 0) T.cl_Web T.m_Web_led_to (ok_Web_led_to T) (hr.mono (by decide)) T.b_Web_led_to (fun σ => passAt (takes_of rfl rfl rfl rfl) σ) (pa_cons (pv 1) pa_nil))) (blkOk_by (N := N_Web_asked) (sc := defScope s_Web_asked) (by decide +kernel)) (fun _ _ _ _ _ => pg_name (i := 2) sc_Web_asked.nd rfl (Or.inl rfl)) (fun _ _ _ _ _ => by exact (pts_one (pt_cmpR op_ge (pv 2) pe_int (nomark _)))) (fun _ _ _ _ _ => by exact (pe_ix ix_tup (pe_ix ix_tup (pe_fld (pv 0) (by rfl)) (pv 2) (by intro _ _; rfl)) pe_int (by intro _ _; rfl)))) pa_nil)) pa_nil)) pa_nil)))), ?_⟩
    obtain ⟨dx, nt, as, hx, hnt, hrows⟩ := id hw
    refine ⟨_, rfl, x, dx, _, rfl, hx, rfl, _, rfl, x, rows, e, o, z, rfl, hw, G, bz, fun hz H1 D l f1 hD hl nd => ?_, kx⟩
    have ll := led_len G hz nd hl
    refine ⟨D, rfl, ⟨_, lst_of hD⟩, fun C nC => ?_⟩
    refine lc_list (K := K) (a := D) (xs := l.map V.int) (fun i H2 => Same H1 H2 ∧ ∃ acc : List Int, H2 C = some (.lst (acc.map V.int)) ∧ acc.length ≤ i ∧ ∀ k, k ∈ acc ↔ ∃ (j : Nat) (r : List Int), (j : Int) ∈ l.take i ∧ rows[j]? = some (k :: r)) ⟨same_upd nC, [], upd_same, Nat.le_refl _, fun k => ⟨fun h => (nomatch h), fun ⟨j, r, h, _⟩ => (nomatch h)⟩⟩ (fun i H2 _ h => lst_of (h.1 _ _ hD)) (fun i y H2 hi h => ?_) (fun H2 h => ?_)
    · obtain ⟨f2, acc, hC, hacc, hm⟩ := h
      obtain ⟨p, hp, rfl⟩ := get_map_int hi
      have hil : i < l.length := (List.getElem?_eq_some_iff.mp hp).1
      refine ⟨rfl, _, rfl, _, _, rfl, rfl, _, rfl, ite2 (fun h0 => ?_) (fun h0 => ?_)⟩
      · have h0 : 0 ≤ p := of_decide_eq_true h0
        have hpb := ((hl p).mp (List.mem_of_getElem? hp)).bounds G hz.1 hz.2
        obtain ⟨n, rfl⟩ : ∃ n : Nat, p = (n : Int) := ⟨p.toNat, by omega⟩
        obtain ⟨an, row, han, hrn, hrw⟩ := rows_get (hrows.same (f1.trans f2)) (show n < rows.length by omega)
        obtain ⟨q, a', b', r, rfl, _⟩ := G.two hrn
        refine ⟨_, rfl, x, _, dx, _, _, rfl, (f1.trans f2) _ _ hx, T.cl_Web, T.nA_Web_nodes, rfl, _, rfl, nt, _, (n : Int), _, rfl, rfl, tup_of ((f1.trans f2) _ _ hnt), at_tup (by rw [List.getElem?_map, han]; rfl), an, _, 0, .int q, rfl, rfl, tup_of hrw, at_tup (j := 0) rfl, _, hC, by rw [List.length_map, sizeLine_eq]; omega, f2.mut nC, acc ++ [q], by rw [upd_same, List.map_append]; rfl, by rw [List.length_append, List.length_singleton]; omega, fun k => ?_⟩
        rw [take_get hp, List.mem_append, List.mem_singleton, hm]
        constructor
        · rintro (⟨j, r, h1, h2⟩ | rfl)
          · exact ⟨j, r, List.mem_append.mpr (.inl h1), h2⟩
          · exact ⟨n, _, List.mem_append.mpr (.inr (List.mem_singleton.mpr rfl)), hrn⟩
        · rintro ⟨j, r, h1, h2⟩
          rcases List.mem_append.mp h1 with h1 | h1
          · exact .inl ⟨j, r, h1, h2⟩
          · have : j = n := by have := List.mem_singleton.mp h1; omega
            subst this
            rw [hrn] at h2
            simp only [Option.some.injEq, List.cons.injEq] at h2
            exact .inr h2.1.symm
      · refine ⟨f2, acc, hC, by omega, fun k => ?_⟩
        rw [take_get hp, hm]
        constructor
        · rintro ⟨j, r, h1, h2⟩
          exact ⟨j, r, List.mem_append.mpr (.inl h1), h2⟩
        · rintro ⟨j, r, h1, h2⟩
          rcases List.mem_append.mp h1 with h1 | h1
          · exact ⟨j, r, h1, h2⟩
          · have := List.mem_singleton.mp h1
            exact absurd (decide_eq_true (show 0 ≤ p by omega)) h0
    · obtain ⟨f2, acc, hC, hacc, hm⟩ := h
      rw [List.length_map] at hacc hm
      rw [List.take_length] at hm
      have hA : IsAsked rows z acc := fun k => by
        rw [hm]
        exact ⟨fun ⟨j, r, h1, h2⟩ => ⟨j, r, (hl _).mp h1, h2⟩, fun ⟨j, r, h1, h2⟩ => ⟨j, r, (hl _).mpr h1, h2⟩⟩
      have hr : ∀ x ∈ acc, 0 ≤ x ∧ x < 48 := fun x hx => by
        obtain ⟨j, r, _, h2⟩ := (hA x).mp hx
        obtain ⟨q, a', b', r', er, q0, q1, _⟩ := G.two h2
        obtain ⟨rfl, _⟩ := List.cons.inj er
        exact ⟨q0, q1⟩
      refine ⟨C, acc, rfl, lst_of hC, by omega, fun p c np hc hL => ?_⟩
      refine ⟨p, _, c, rfl, upd_same, cap48 hr hL, fun ns r hs hms hlen nr => ?_⟩
      have ens : ns = norm acc := norm_of_sorted hs (fun x => by rw [hms, decide_eq_true_eq]) hr
      subst ens
      refine ⟨r, _, rfl, .inl ⟨lst_of upd_same, fun t nt => ?_⟩⟩
      exact k hz _ t acc (((f1.trans f2).trans (same_upd np)).trans ((same_upd nr).trans (same_upd nt))) upd_same hA
theorem ok_Web_reach (T : Txt K mg a) : FnOk P w K mg base (L2.CX P w) 4 a.f_Web_reach a.d_Web_reach P_Web_reach (spReach K a.c_Web a.c_NoPosition) := by
  refine T.F_Web_reach.okX sc_Web_reach (fun vs H Q E h => ?_) (fun cdv A outer s H vs Q E hr h => ?_)
  · obtain ⟨x, rows, e, o, z, rfl, _⟩ := h
    rfl
  · obtain ⟨x, rows, e, o, z, rfl, hw, G, hn, bz, k, kx⟩ := h
    refine ⟨_, (pss_one (ps_ret (pe_callTy call_tuple_of (by rfl) T.z_tuple (by decide +kernel) (pa_cons (pe_callB (cr_sortedSet rfl) (by rfl) T.z_sorted (by decide +kernel) (pa_cons (pe_callTy (cr_setOfL rfl) (by rfl) T.z_set (by decide +kernel) (pa_cons (pe_lc (own := [("place", 2)]) (g := gName 2) (tt := (tTest (tOp (rI0 fun i j => .bl (decide (i < j))) (tVar 2) (tC (.int 0))))) (te := (tOp (rI0 fun i j => .int (i - j)) (tUn (rU fun i => .int (-i)) (tC (.int 1))) (tVar 2))) rfl sc_Web_reach.nd (pi_list (pe_methT (pv 0) T.cl_Web T.m_Web_led_to (ok_Web_led_to T) (hr.mono (by decide)) T.b_Web_led_to (fun σ => passAt (takes_of rfl rfl rfl rfl) σ) (pa_cons (pv 1) pa_nil))) (blkOk_by (N := N_Web_reach) (sc := defScope s_Web_reach) (by decide +kernel)) (fun _ _ _ _ _ => pg_name (i := 2) sc_Web_reach.nd rfl (Or.inl rfl)) (fun _ _ _ _ _ => by exact (pts_one (pt_cmpR op_lt (pv 2) pe_int (nomark _)))) (fun _ _ _ _ _ => by exact (pe_op op_sub (pe_un un_neg pe_int) (pv 2)))) pa_nil)) pa_nil)) pa_nil)))), ?_⟩
    obtain ⟨dx, nt, as, hx, hnt, hrows⟩ := id hw
    refine ⟨_, rfl, x, dx, _, rfl, hx, rfl, _, rfl, x, rows, e, o, z, rfl, hw, G, bz, fun hz H1 D l f1 hD hl nd => ?_, kx⟩
    have ll := led_len G hz nd hl
    refine ⟨D, rfl, ⟨_, lst_of hD⟩, fun C nC => ?_⟩
    refine lc_list (K := K) (a := D) (xs := l.map V.int) (fun i H2 => Same H1 H2 ∧ ∃ acc : List Int, H2 C = some (.lst (acc.map V.int)) ∧ acc.length ≤ i ∧ ∀ k, k ∈ acc ↔ (0 ≤ k ∧ -1 - k ∈ l.take i)) ⟨same_upd nC, [], upd_same, Nat.le_refl _, fun k => ⟨fun h => (nomatch h), fun ⟨_, h⟩ => (nomatch h)⟩⟩ (fun i H2 _ h => lst_of (h.1 _ _ hD)) (fun i y H2 hi h => ?_) (fun H2 h => ?_)
    · obtain ⟨f2, acc, hC, hacc, hm⟩ := h
      obtain ⟨p, hp, rfl⟩ := get_map_int hi
      have hil : i < l.length := (List.getElem?_eq_some_iff.mp hp).1
      refine ⟨rfl, _, rfl, _, _, rfl, rfl, _, rfl, ite2 (fun h0 => ?_) (fun h0 => ?_)⟩
      · have h0 : p < 0 := of_decide_eq_true h0
        refine ⟨_, rfl, _, rfl, _, _, rfl, rfl, _, hC, by rw [List.length_map, sizeLine_eq]; omega, f2.mut nC, acc ++ [-1 - p], by rw [upd_same, List.map_append]; rfl, by rw [List.length_append, List.length_singleton]; omega, fun k => ?_⟩
        rw [take_get hp, List.mem_append, List.mem_singleton, hm, List.mem_append, List.mem_singleton]
        constructor
        · rintro (⟨h1, h2⟩ | rfl)
          · exact ⟨h1, .inl h2⟩
          · exact ⟨by omega, .inr (by omega)⟩
        · rintro ⟨h1, h2 | h2⟩
          · exact .inl ⟨h1, h2⟩
          · exact .inr (by omega)
      · refine ⟨f2, acc, hC, by omega, fun k => ?_⟩
        rw [take_get hp, hm, List.mem_append, List.mem_singleton]
        constructor
        · rintro ⟨h1, h2⟩
          exact ⟨h1, .inl h2⟩
        · rintro ⟨h1, h2 | h2⟩
          · exact ⟨h1, h2⟩
          · exact absurd (decide_eq_true (show p < 0 by omega)) h0
    · obtain ⟨f2, acc, hC, hacc, hm⟩ := h
      rw [List.length_map] at hacc hm
      rw [List.take_length] at hm
      have hA : IsReach rows z acc := fun k => by rw [hm, hl]
      have hr : ∀ x ∈ acc, 0 ≤ x ∧ x < 48 := fun x hx => by
        obtain ⟨h0, h1⟩ := (hA x).mp hx
        have := h1.bounds G hz.1 hz.2
        omega
      refine ⟨C, acc, rfl, lst_of hC, by omega, fun p c np hc hL => ?_⟩
      refine ⟨p, _, c, rfl, upd_same, cap48 hr hL, fun ns r hs hms hlen nr => ?_⟩
      have ens : ns = norm acc := norm_of_sorted hs (fun x => by rw [hms, decide_eq_true_eq]) hr
      subst ens
      refine ⟨r, _, rfl, .inl ⟨lst_of upd_same, fun t nt => ?_⟩⟩
      exact k hz _ t acc (((f1.trans f2).trans (same_upd np)).trans ((same_upd nr).trans (same_upd nt))) upd_same hA
theorem ok_Web_reached (T : Txt K mg a) : FnOk P w K mg base CX0 4 a.f_Web_reached a.d_Web_reached P_Web_reached (spReached a.c_Web) := by
  refine T.F_Web_reached.ok sc_Web_reached (fun vs H Q E h => ?_) (fun cdv A outer s H vs Q E hr h => ?_)
  · obtain ⟨x, rows, e, o, rfl, _⟩ := h
    rfl
  · obtain ⟨x, rows, e, o, rfl, hw, G, hn, k⟩ := h
    refine ⟨_, (pss_one (ps_ret (pe_callTy call_tuple_of (by rfl) T.z_tuple (by decide +kernel) (pa_cons (pe_callB (cr_sortedSet rfl) (by rfl) T.z_sorted (by decide +kernel) (pa_cons (pe_callTy (cr_setOfL rfl) (by rfl) T.z_set (by decide +kernel) (pa_cons (pe_lc (own := [("place", 1)]) (g := gName 1) (tt := (tTest (tOp (rI0 fun i j => .bl (decide (j ≤ i))) (tVar 1) (tC (.int 0))))) (te := (tVar 1)) rfl sc_Web_reached.nd (pi_list (pe_meth (pv 0) T.cl_Web T.m_Web_led_to (ok_Web_led_to T) (hr.mono (by decide)) T.b_Web_led_to .nil passL (pa_cons (pe_fld (pv 0) (by rfl)) pa_nil))) (blkOk_by (N := N_Web_reached) (sc := defScope s_Web_reached) (by decide +kernel)) (fun _ _ _ _ _ => pg_name (i := 1) sc_Web_reached.nd rfl (Or.inl rfl)) (fun _ _ _ _ _ => by exact (pts_one (pt_cmpR op_ge (pv 1) pe_int (nomark _)))) (fun _ _ _ _ _ => by exact (pv 1))) pa_nil)) pa_nil)) pa_nil)))), ?_⟩
    obtain ⟨dx, nt, as, hx, hnt, hrows⟩ := id hw
    have hz : -e ≤ o ∧ o < rows.length := ⟨G.o1, G.o2⟩
    have ge2 := G.e2
    refine ⟨_, rfl, x, dx, _, rfl, hx, rfl, _, rfl, x, _, dx, _, _, rfl, hx, T.cl_Web, T.nA_Web_start, rfl, x, rows, e, o, o, rfl, hw, G, Bd.small (by omega) (by omega), fun _ H1 D l f1 hD hl nd => ?_, fun h => absurd hz h⟩
    have ll := led_len G hz nd hl
    refine ⟨D, rfl, ⟨_, lst_of hD⟩, fun C nC => ?_⟩
    refine lc_list (K := K) (a := D) (xs := l.map V.int) (fun i H2 => Same H1 H2 ∧ ∃ acc : List Int, H2 C = some (.lst (acc.map V.int)) ∧ acc.length ≤ i ∧ ∀ k, k ∈ acc ↔ (0 ≤ k ∧ k ∈ l.take i)) ⟨same_upd nC, [], upd_same, Nat.le_refl _, fun k => ⟨fun h => (nomatch h), fun ⟨_, h⟩ => (nomatch h)⟩⟩ (fun i H2 _ h => lst_of (h.1 _ _ hD)) (fun i y H2 hi h => ?_) (fun H2 h => ?_)
    · obtain ⟨f2, acc, hC, hacc, hm⟩ := h
      obtain ⟨p, hp, rfl⟩ := get_map_int hi
      have hil : i < l.length := (List.getElem?_eq_some_iff.mp hp).1
      refine ⟨rfl, _, rfl, _, _, rfl, rfl, _, rfl, ite2 (fun h0 => ?_) (fun h0 => ?_)⟩
      · have h0 : 0 ≤ p := of_decide_eq_true h0
        refine ⟨_, rfl, _, hC, by rw [List.length_map, sizeLine_eq]; omega, f2.mut nC, acc ++ [p], by rw [upd_same, List.map_append]; rfl, by rw [List.length_append, List.length_singleton]; omega, fun k => ?_⟩
        rw [take_get hp, List.mem_append, List.mem_singleton, hm, List.mem_append, List.mem_singleton]
        constructor
        · rintro (⟨h1, h2⟩ | rfl)
          · exact ⟨h1, .inl h2⟩
          · exact ⟨h0, .inr rfl⟩
        · rintro ⟨h1, h2 | h2⟩
          · exact .inl ⟨h1, h2⟩
          · exact .inr h2
      · refine ⟨f2, acc, hC, by omega, fun k => ?_⟩
        rw [take_get hp, hm, List.mem_append, List.mem_singleton]
        constructor
        · rintro ⟨h1, h2⟩
          exact ⟨h1, .inl h2⟩
        · rintro ⟨h1, h2 | h2⟩
          · exact ⟨h1, h2⟩
          · exact absurd (decide_eq_true (show 0 ≤ p by omega)) h0
    · obtain ⟨f2, acc, hC, hacc, hm⟩ := h
      rw [List.length_map] at hacc hm
      rw [List.take_length] at hm
      have hA : IsReached rows o acc := fun k => by rw [hm, hl]
      have hr : ∀ x ∈ acc, 0 ≤ x ∧ x < 48 := fun x hx => by
        obtain ⟨h0, h1⟩ := (hA x).mp hx
        have := h1.bounds G hz.1 hz.2
        omega
      refine ⟨C, acc, rfl, lst_of hC, by omega, fun p c np hc hL => ?_⟩
      refine ⟨p, _, c, rfl, upd_same, cap48 hr hL, fun ns r hs hms hlen nr => ?_⟩
      have ens : ns = norm acc := norm_of_sorted hs (fun x => by rw [hms, decide_eq_true_eq]) hr
      subst ens
      refine ⟨r, _, rfl, .inl ⟨lst_of upd_same, fun t nt => ?_⟩⟩
      exact k _ t acc (((f1.trans f2).trans (same_upd np)).trans ((same_upd nr).trans (same_upd nt))) upd_same hA
end
end K03

namespace K03
open PySem PySem.Spec PyProof.Rows L2
section
variable {P : Program} {w : World} {K : PySem.W.Frag} {mg : Str → Option Value} {base : Heap} {a : Ad}
def spLedL : Sp := fun vs H Q _ => ∃ (q : Addr) (as : List Addr) (rows : List (List Int)) (e o z : Int), vs = [.ref q, .int z] ∧ H q = some (.lst (as.map V.ref)) ∧ RowsAt H as rows ∧ GoodW rows e o ∧ rows.length ≤ 40 ∧
  ∀ (H' : Hp) (D : Addr) (l : List Int), Same H H' → H' D = some (.lst (l.map V.int)) → (∀ j, j ∈ l ↔ Led rows z j) → l.length ≤ 100 → Q (.ref D) H'
theorem ok_l_led (T : Txt K mg a) : FnOk P w K mg base CX0 1 a.f_l_led a.d_l_led P_l_led spLedL := by
  refine T.F_l_led.ok sc_l_led (fun vs H Q E h => ?_) (fun cdv A outer s H vs Q E hr h => ?_)
  · obtain ⟨q, as, rows, e, o, z, rfl, _⟩ := h
    rfl
  · obtain ⟨q, as, rows, e, o, z, rfl, hq, hrows, G, hn, k⟩ := h
    refine ⟨_, (Evl.pss_cut (ps_set (i := 2) sc_l_led.nd rfl (Or.inr rfl) (pe_lst (pa_cons (pv 1) pa_nil)))
  (Evl.pss_cut (ps_for PassesOwn.never rfl (pi_range1 (by rfl) T.z_range (pa_cons (pe_callB call_len_seq (by rfl) T.z_len (by decide +kernel) (pa_cons (pv 0) pa_nil)) pa_nil)) (pg_name (i := 3) sc_l_led.nd rfl (Or.inl rfl))
    (pss_one (ps_if (pt_cmpR op_in_seq (pv 3) (pv 2) (by with_unfolding_all rfl))
    (pss_one (ps_set (i := 2) sc_l_led.nd rfl (Or.inr rfl) (pe_op op_cat (pv 2) (pe_lc (own := [("_law_target_here", 4)]) (g := gName 4) (tt := (tTest (tOp (rIn K true) (tVar 4) (tVar 2)))) (te := (tVar 4)) rfl sc_l_led.nd (pi_tup (pe_slice sl_tupA (pe_ix ix_list (pv 0) (pv 3) (by intro _ _; rfl)) (po_some pe_int) (po_some pe_int))) (blkOk_by (N := N_l_led) (sc := defScope s_l_led) (by decide +kernel)) (fun _ _ _ _ _ => pg_name (i := 4) sc_l_led.nd rfl (Or.inl rfl)) (fun _ _ _ _ _ => by exact (pts_one (pt_cmpR op_notIn_seq (pv 4) (pv 2) (by with_unfolding_all rfl)))) (fun _ _ _ _ _ => by exact (pv 4))))))
    pss_nil)))
  (pss_one (ps_ret (pv 2))))), ?_⟩
    have asl : as.length = rows.length := hrows.1
    refine ⟨fun σ H1 => ∃ M, σ = [some (.ref q), some (.int z), some (.ref M), none, none] ∧ Same H H1 ∧ H1 M = some (.lst ([z].map V.int)), ?_, ?_⟩
    · exact ⟨_, rfl, by show 1 ≤ sizeLine; decide, fun M nM => ⟨M, rfl, same_upd nM, upd_same⟩⟩
    rintro σ H1 ⟨M0, rfl, f1, hM0⟩
    refine ⟨fun σ H2 => ∃ v3 M, ∃ l : List Int, σ = [some (.ref q), some (.int z), some (.ref M), v3, none] ∧ Same H H2 ∧ H2 M = some (.lst (l.map V.int)) ∧ (∀ j, j ∈ l ↔ Led rows z j) ∧ l.length ≤ 100, ?_, ?_⟩
    · refine ⟨_, rfl, q, _, rfl, .inl (lst_of (f1 _ _ hq)), _, rfl, by omega, by rw [List.length_map]; omega, ?_⟩
      rw [List.length_map, asl, Int.toNat_natCast]
      refine for_range (lo := 0) (n := rows.length) (fun i σ H2 => ∃ v3 M, ∃ l : List Int, σ = [some (.ref q), some (.int z), some (.ref M), v3, none] ∧ Same H H2 ∧ H2 M = some (.lst (l.map V.int)) ∧ z ∈ l ∧ (∀ j ∈ l, Led rows z j) ∧ (∀ (j : Nat) q a b r, j < i → (j : Int) ∈ l → rows[j]? = some (q :: a :: b :: r) → a ∈ l ∧ b ∈ l) ∧ l.length ≤ 1 + 2 * i)
        ⟨_, M0, [z], rfl, f1, hM0, List.mem_singleton.mpr rfl, fun j hj => by rw [List.mem_singleton.mp hj]; exact .refl, fun j _ _ _ _ h => absurd h (Nat.not_lt_zero _), Nat.le_refl _⟩ ?_ ?_
      · rintro i σ H2 hi ⟨v3, M, l, rfl, f2, hM, hz, hled, hcl, hll⟩
        rw [show (0 : Int) + ((i : Nat) : Int) = (i : Int) by omega]
        obtain ⟨ai, row, hai, hri, hrw⟩ := rows_get (hrows.same f2) hi
        obtain ⟨qq, a', b', r, rfl, _, _, ha, hb⟩ := G.two hri
        refine ⟨_, rfl, _, rfl, in_k (neg := false) (.inl (lst_of hM)) ⟨_, rfl, ite2 (fun hin => ?_) (fun hin => ?_)⟩⟩
        · have hin : (i : Int) ∈ l := by simpa using hin
          refine ⟨_, rfl, _, rfl, _, rfl, q, _, (i : Int), _, rfl, rfl, lst_of (f2 _ _ hq), at_tup (by rw [List.getElem?_map, hai]; rfl), _, rfl, _, rfl, mid_row hrw fun u nu => ⟨u, rfl, ⟨_, tup_of upd_same⟩, fun B nB => ?_⟩⟩
          have e1 := same_upd nu (o := .tup ([a', b'].map V.int))
          have hM1 := e1 _ _ hM
          refine lc_tup (K := K) (a := u) (xs := [a', b'].map V.int) (fun j H4 => Same (upd H2 u (.tup ([a', b'].map V.int))) H4 ∧ H4 B = some (.lst (((([a', b'] : List Int).take j).filter fun t => !decide (t ∈ l)).map V.int))) ⟨same_upd nB, upd_same⟩ (fun j H4 _ h => tup_of (h.1 _ _ upd_same)) (fun j y H4 hj h => ?_) (fun H4 h => ?_)
          · obtain ⟨f4, hB⟩ := h
            obtain ⟨t, ht, rfl⟩ := get_map_int hj
            refine ⟨rfl, _, rfl, _, rfl, in_k (neg := true) (.inl (lst_of (f4 _ _ hM1))) ⟨_, rfl, ite2 (fun hh => ?_) (fun hh => ?_)⟩⟩
            · have hh : t ∉ l := by simpa using hh
              have ft : ([t].filter fun t => !decide (t ∈ l)) = [t] := by simp [hh]
              refine ⟨_, rfl, _, hB, ?_, f4.mut nB, ?_⟩
              · rw [List.length_map, sizeLine_eq]
                have := List.length_filter_le (fun t => !decide (t ∈ l)) (([a', b'] : List Int).take j)
                have h2 : (([a', b'] : List Int).take j).length ≤ 2 := by rw [List.length_take]; exact Nat.min_le_right _ _
                omega
              · rw [upd_same, take_get ht, List.filter_append, List.map_append, ft]
                rfl
            · have hh : t ∈ l := by simpa using hh
              have ft : ([t].filter fun t => !decide (t ∈ l)) = [] := by simp [hh]
              refine ⟨f4, ?_⟩
              rw [hB, take_get ht, List.filter_append, ft, List.append_nil]
          · obtain ⟨f4, hB⟩ := h
            rw [List.length_map, List.take_length] at hB
            have hM4 := f4 _ _ hM1
            have hfl := List.length_filter_le (fun t => !decide (t ∈ l)) [a', b']
            have hfl2 : ([a', b'] : List Int).length = 2 := rfl
            refine ⟨M, B, _, _, rfl, rfl, hM4, hB, by rw [List.length_map, List.length_map, sizeLine_eq]; omega, fun M2 nM2 => ?_⟩
            have inA : ∀ t ∈ [a', b'], t ∈ l ++ ([a', b'].filter fun t => !decide (t ∈ l)) := fun t ht => by
              by_cases h : t ∈ l
              · exact List.mem_append.mpr (.inl h)
              · exact List.mem_append.mpr (.inr (List.mem_filter.mpr ⟨ht, by simp [h]⟩))
            refine ⟨_, M2, l ++ ([a', b'].filter fun t => !decide (t ∈ l)), rfl, ((f2.trans e1).trans f4).trans (same_upd nM2), by rw [upd_same, List.map_append], List.mem_append.mpr (.inl hz), fun j hj => ?_, fun j q2 a2 b2 r2 hj hjl hr2 => ?_, by rw [List.length_append]; omega⟩
            · rcases List.mem_append.mp hj with hj | hj
              · exact hled j hj
              · have := (List.mem_filter.mp hj).1
                refine .step (hled _ hin) (by omega) (by rw [Int.toNat_natCast]; exact hri) ?_
                rcases List.mem_cons.mp this with h | h
                · exact .inl h
                · exact .inr (List.mem_singleton.mp h)
            · rcases List.mem_append.mp hjl with hjl | hjl
              · by_cases hji : j < i
                · obtain ⟨x1, x2⟩ := hcl j q2 a2 b2 r2 hji hjl hr2
                  exact ⟨List.mem_append.mpr (.inl x1), List.mem_append.mpr (.inl x2)⟩
                · have : j = i := by omega
                  subst this
                  rw [hri] at hr2
                  simp only [Option.some.injEq, List.cons.injEq] at hr2
                  obtain ⟨_, rfl, rfl, _⟩ := hr2
                  exact ⟨inA _ List.mem_cons_self, inA _ (List.mem_cons_of_mem _ List.mem_cons_self)⟩
              · exfalso
                have := (List.mem_filter.mp hjl).1
                rcases List.mem_cons.mp this with h | h
                · exact ha.2.2 ⟨by omega, by omega⟩
                · have := List.mem_singleton.mp h
                  exact hb.2.2 ⟨by omega, by omega⟩
        · have hin : (i : Int) ∉ l := by simpa using hin
          refine ⟨_, M, l, rfl, f2, hM, hz, hled, fun j q2 a2 b2 r2 hj hjl hr2 => ?_, by omega⟩
          by_cases hji : j < i
          · exact hcl j q2 a2 b2 r2 hji hjl hr2
          · have : j = i := by omega
            subst this
            exact absurd hjl hin
      · rintro σ H2 ⟨v3, M, l, rfl, f2, hM, hz, hled, hcl, hll⟩
        refine ⟨_, M, l, rfl, f2, hM, fun j => ⟨fun hj => hled j hj, fun hj => hj.sub hz fun j q2 a2 b2 r2 hj j0 hr2 => ?_⟩, by omega⟩
        obtain ⟨n, rfl⟩ : ∃ n : Nat, j = (n : Int) := ⟨j.toNat, by omega⟩
        rw [Int.toNat_natCast] at hr2
        exact hcl n q2 a2 b2 r2 (List.getElem?_eq_some_iff.mp hr2).1 hj hr2
    rintro σ H2 ⟨v3, M, l, rfl, f2, hM, hl, hll⟩
    exact ⟨_, rfl, k H2 M l f2 hM hl hll⟩
def spLA (IS : List (List Int) → Int → List Int → Prop) (C : Addr) : Sp := fun vs H Q _ => ∃ (x : Addr) (rows : List (List Int)) (e o z : Int), vs = [.ref x, .int z] ∧ WebAt C H x rows e o ∧ GoodW rows e o ∧ rows.length ≤ 40 ∧ e ≤ 40 ∧ Bd z ∧
  ((-e ≤ z ∧ z < rows.length) → ∀ (H' : Hp) (t : Addr) (l : List Int), Same H H' → H' t = some (.tup ((norm l).map V.int)) → IS rows z l → Q (.ref t) H') ∧
  (¬ (-e ≤ z ∧ z < rows.length) → ∀ (H' : Hp) (t : Addr), Same H H' → H' t = some (.tup [.str "no position", .int z]) → Q (.ref t) H')
theorem ok_l_asked (T : Txt K mg a) : FnOk P w K mg base CX0 5 a.f_l_asked a.d_l_asked P_l_asked (spLA IsAsked a.c_Web) := by
  refine T.F_l_asked.ok sc_l_asked (fun vs H Q E h => ?_) (fun cdv A outer s H vs Q E hr h => ?_)
  · obtain ⟨x, rows, e, o, z, rfl, _⟩ := h
    rfl
  · obtain ⟨x, rows, e, o, z, rfl, hw, G, hn, he, bz, k, kx⟩ := h
    refine ⟨_, (pss_one (ps_try_as (i := 2) (tb := fun W => (tRet (tMethT a.c_Web "asked" (spAsked K a.c_Web a.c_NoPosition) (WE W) (tVar 0) (tCons (tVar 1) tNil))))
    (ts := fun a0 cls d => (tRet (tTup (tCons (tC (.str "no position")) (tCons (tXf a0 cls d a.c_NoPosition "place" (tVar 2)) tNil)))))
    rfl rfl sc_l_asked.nd rfl rfl ⟨rfl, by decide, .inl T.g_NoPosition⟩ takes0
    (fun W pn xe tk _ => by exact (pss_one (ps_ret (pe_methT (pv 0) T.cl_Web T.m_Web_asked (ok_Web_asked T) (hr.mono (by decide)) T.b_Web_asked (fun σ => passAt tk σ) (pa_cons (pv 1) pa_nil)))))
    (fun a0 oe cls d pn hz hf => by exact (pss_one (ps_ret (pe_tup (pa_cons pe_str (pa_cons (pe_xf T.xf_NoPosition T.nf_NoPosition_place hz hf (pv 2)) pa_nil)))))))), ?_⟩
    obtain ⟨dx, nt, as, hx, _⟩ := id hw
    refine ⟨_, rfl, x, dx, _, rfl, hx, rfl, _, rfl, x, rows, e, o, z, rfl, hw, G, hn, bz, k, fun hz d H1 nd e1 hd => ⟨true, T.te_NoPosition, fun _ a0 na => ?_, fun q => Bool.noConfusion q⟩⟩
    exact ⟨_, rfl, rfl, rfl, d, _, _, rfl, hd, rfl, by show 2 ≤ sizeLine; decide, fun t nt => kx hz _ t (e1.trans (same_upd nt)) upd_same⟩
theorem ok_l_reach (T : Txt K mg a) : FnOk P w K mg base CX0 5 a.f_l_reach a.d_l_reach P_l_reach (spLA IsReach a.c_Web) := by
  refine T.F_l_reach.ok sc_l_reach (fun vs H Q E h => ?_) (fun cdv A outer s H vs Q E hr h => ?_)
  · obtain ⟨x, rows, e, o, z, rfl, _⟩ := h
    rfl
  · obtain ⟨x, rows, e, o, z, rfl, hw, G, hn, he, bz, k, kx⟩ := h
    refine ⟨_, (pss_one (ps_try_as (i := 2) (tb := fun W => (tRet (tMethT a.c_Web "reach" (spReach K a.c_Web a.c_NoPosition) (WE W) (tVar 0) (tCons (tVar 1) tNil))))
    (ts := fun a0 cls d => (tRet (tTup (tCons (tC (.str "no position")) (tCons (tXf a0 cls d a.c_NoPosition "place" (tVar 2)) tNil)))))
    rfl rfl sc_l_reach.nd rfl rfl ⟨rfl, by decide, .inl T.g_NoPosition⟩ takes0
    (fun W pn xe tk _ => by exact (pss_one (ps_ret (pe_methT (pv 0) T.cl_Web T.m_Web_reach (ok_Web_reach T) (hr.mono (by decide)) T.b_Web_reach (fun σ => passAt tk σ) (pa_cons (pv 1) pa_nil)))))
    (fun a0 oe cls d pn hz hf => by exact (pss_one (ps_ret (pe_tup (pa_cons pe_str (pa_cons (pe_xf T.xf_NoPosition T.nf_NoPosition_place hz hf (pv 2)) pa_nil)))))))), ?_⟩
    obtain ⟨dx, nt, as, hx, _⟩ := id hw
    refine ⟨_, rfl, x, dx, _, rfl, hx, rfl, _, rfl, x, rows, e, o, z, rfl, hw, G, he, bz, k, fun hz d H1 nd e1 hd => ⟨true, T.te_NoPosition, fun _ a0 na => ?_, fun q => Bool.noConfusion q⟩⟩
    exact ⟨_, rfl, rfl, rfl, d, _, _, rfl, hd, rfl, by show 2 ≤ sizeLine; decide, fun t nt => kx hz _ t (e1.trans (same_upd nt)) upd_same⟩
end
end K03

namespace K03
open PySem PySem.Spec PyProof.Rows L2
section
variable {P : Program} {w : World} {K : PySem.W.Frag} {mg : Str → Option Value} {base : Heap} {a : Ad}
theorem norm_same {l l' : List Int} (h : ∀ k, k ∈ l ↔ k ∈ l') : norm l = norm l' := norm_ext fun x _ _ => h x
theorem rg_filter {n : Nat} {p : Int → Bool} {l : List Int} (hn : n ≤ 48) (hm : ∀ k, k ∈ l ↔ (0 ≤ k ∧ k < n ∧ p k = true)) : (rgI n).filter p = norm l := by
  refine norm_of_sorted ?_ (fun x => ?_) fun x hx => ?_
  · have : (rgI n).Pairwise (· < ·) := by
      unfold rgI
      rw [List.pairwise_map]
      exact (List.pairwise_lt_range).imp fun h => by omega
    exact this.sublist List.filter_sublist
  · rw [List.mem_filter, mem_rgI, hm]
    constructor
    · rintro ⟨⟨h1, h2⟩, h3⟩
      exact ⟨h1, h2, h3⟩
    · rintro ⟨h1, h2, h3⟩
      exact ⟨⟨h1, h2⟩, h3⟩
  · have := (hm x).mp hx
    omega
theorem neD_np {H : Hp} {x y : Addr} {s : Str} {z : Int} {Q : VK} (h1 : H x = some (.tup [.str s, .int z])) (h2 : H y = some (.tup [.str s, .int z])) (q : Q (.bl false) H) (hs : PyData.strOk s = true := by decide +kernel) : rNeD K (.ref x) (.ref y) H Q := neD_bad (tup_of h1) (tup_of h2) q hs
def sp_law (K : PySem.W.Frag) : Sp := fun vs H Q _ => ∃ (x : Addr) (ns : List Int), vs = [.ref x] ∧ ScrAt K H x (ns.map V.int) ∧ ns.length ≤ 63 ∧ ∀ H', Q (.bl true) H'
theorem ok_law (T : Txt K mg a) : FnOk P w K mg base CX0 6 a.f_law a.d_law P_law (sp_law K) := by
  refine T.F_law.ok sc_law (fun vs H Q E h => ?_) (fun cdv A outer s H vs Q E hr h => ?_)
  · obtain ⟨x, ns, rfl, _⟩ := h
    rfl
  · obtain ⟨x, ns, rfl, hx, hl, k⟩ := h
    refine ⟨_, (Evl.pss_cut (ps_set (i := 1) sc_law.nd rfl (Or.inl rfl) (pe_call (ok_l_pool T) (hr.mono (by decide)) (by rfl) T.g_l_pool T.k_l_pool T.b_l_pool .nil pass0 (pa_cons (pv 0) pa_nil)))
  (Evl.pss_cut (ps_set (i := 2) sc_law.nd rfl (Or.inl rfl) (pe_call (ok_l_names T) (hr.mono (by decide)) (by rfl) T.g_l_names T.k_l_names T.b_l_names .nil pass0 (pa_cons (pv 1) (pa_cons pe_int pa_nil))))
  (Evl.pss_cut (ps_set (i := 3) sc_law.nd rfl (Or.inl rfl) (pe_op op_add pe_int (pe_call (ok_l_draw T) (hr.mono (by decide)) (by rfl) T.g_l_draw T.k_l_draw T.b_l_draw .nil pass0 (pa_cons (pv 1) (pa_cons pe_int pa_nil)))))
  (Evl.pss_cut (ps_set (i := 4) sc_law.nd rfl (Or.inr rfl) (pe_call (ok_l_nodes T) (hr.mono (by decide)) (by rfl) T.g_l_nodes T.k_l_nodes T.b_l_nodes .nil pass0 (pa_cons (pv 1) (pa_cons (pe_call (ok_l_draw T) (hr.mono (by decide)) (by rfl) T.g_l_draw T.k_l_draw T.b_l_draw .nil pass0 (pa_cons (pv 1) (pa_cons pe_int pa_nil))) (pa_cons (pv 3) (pa_cons (pv 2) (pa_cons pe_bl pa_nil)))))))
  (Evl.pss_cut (ps_set (i := 5) sc_law.nd rfl (Or.inl rfl) (pe_op op_sub (pe_call (ok_l_draw T) (hr.mono (by decide)) (by rfl) T.g_l_draw T.k_l_draw T.b_l_draw .nil pass0 (pa_cons (pv 1) (pa_cons (pe_op op_add (pe_callB call_len_seq (by rfl) T.z_len (by decide +kernel) (pa_cons (pv 4) pa_nil)) (pv 3)) pa_nil))) (pv 3)))
  (Evl.pss_cut (ps_set (i := 6) sc_law.nd rfl (Or.inl rfl) (pe_makeN (gV := fun us ws => us ++ ws) T.mk_Web (ok_Web_init T) (hr.mono (by decide)) (by rfl) T.g_Web T.kb_Web_init_start (passAt0 pass0) (pa_cons (pv 4) (pa_cons (pv 3) pa_nil)) (pk_cons (pv 5) pk_nil)))
  (Evl.pss_cut (ps_for PassesOwn.never rfl (pi_range2 (by rfl) T.z_range (pa_cons (pe_un un_neg (pv 3)) (pa_cons (pe_callB call_len_seq (by rfl) T.z_len (by decide +kernel) (pa_cons (pv 4) pa_nil)) pa_nil))) (pg_name (i := 7) sc_law.nd rfl (Or.inl rfl))
    (Evl.pss_cut (ps_set (i := 8) sc_law.nd rfl (Or.inr rfl) (pe_call (ok_l_led T) (hr.mono (by decide)) (by rfl) T.g_l_led T.k_l_led T.b_l_led .nil pass0 (pa_cons (pv 4) (pa_cons (pv 7) pa_nil))))
  (Evl.pss_cut (ps_set (i := 9) sc_law.nd rfl (Or.inr rfl) (pe_lc (own := [("_law_place", 11)]) (g := gName 11) (tt := (tTest (tOp (rI0 fun i j => .bl (decide (j ≤ i))) (tVar 11) (tC (.int 0))))) (te := (tOp (rIxT K) (tOp (rIxL K) (tVar 4) (tVar 11)) (tC (.int 0)))) rfl sc_law.nd (pi_list (pv 8)) (blkOk_by (N := N_law) (sc := defScope s_law) (by decide +kernel)) (fun _ _ _ _ _ => pg_name (i := 11) sc_law.nd rfl (Or.inl rfl)) (fun _ _ _ _ _ => by exact (pts_one (pt_cmpR op_ge (pv 11) pe_int (nomark _)))) (fun _ _ _ _ _ => by exact (pe_ix ix_tup (pe_ix ix_list (pv 4) (pv 11) (by intro _ _; rfl)) pe_int (by intro _ _; rfl)))))
  (Evl.pss_cut (ps_if (pt_cmpR (op_neD hr.units) (pe_call (ok_l_asked T) (hr.mono (by decide)) (by rfl) T.g_l_asked T.k_l_asked T.b_l_asked .nil pass0 (pa_cons (pv 6) (pa_cons (pv 7) pa_nil))) (pe_callTy call_tuple_of (by rfl) T.z_tuple (by decide +kernel) (pa_cons (pe_lc (own := [("_law_name", 12)]) (g := gName 12) (tt := (tTest (tOp (rIn K false) (tVar 12) (tVar 9)))) (te := (tVar 12)) rfl sc_law.nd (pi_range1 (by rfl) T.z_range (pa_cons pe_int pa_nil)) (blkOk_by (N := N_law) (sc := defScope s_law) (by decide +kernel)) (fun _ _ _ _ _ => pg_name (i := 12) sc_law.nd rfl (Or.inl rfl)) (fun _ _ _ _ _ => by exact (pts_one (pt_cmpR op_in_seq (pv 12) (pv 9) (by with_unfolding_all rfl)))) (fun _ _ _ _ _ => by exact (pv 12))) pa_nil)) (nomark _))
    (pss_one (ps_ret pe_bl))
    pss_nil)
  (pss_one (ps_if (pt_cmpR (op_neD hr.units) (pe_call (ok_l_reach T) (hr.mono (by decide)) (by rfl) T.g_l_reach T.k_l_reach T.b_l_reach .nil pass0 (pa_cons (pv 6) (pa_cons (pv 7) pa_nil))) (pe_callTy call_tuple_of (by rfl) T.z_tuple (by decide +kernel) (pa_cons (pe_lc (own := [("_law_end", 13)]) (g := gName 13) (tt := (tTest (tOp (rIn K false) (tOp (rI0 fun i j => .int (i - j)) (tUn (rU fun i => .int (-i)) (tC (.int 1))) (tVar 13)) (tVar 8)))) (te := (tVar 13)) rfl sc_law.nd (pi_range1 (by rfl) T.z_range (pa_cons (pv 3) pa_nil)) (blkOk_by (N := N_law) (sc := defScope s_law) (by decide +kernel)) (fun _ _ _ _ _ => pg_name (i := 13) sc_law.nd rfl (Or.inl rfl)) (fun _ _ _ _ _ => by exact (pts_one (pt_cmpR op_in_seq (pe_op op_sub (pe_un un_neg pe_int) (pv 13)) (pv 8) (by with_unfolding_all rfl)))) (fun _ _ _ _ _ => by exact (pv 13))) pa_nil)) (nomark _))
    (pss_one (ps_ret pe_bl))
    pss_nil))))))
  (Evl.pss_cut (ps_for PassesOwn.never rfl (pi_list (pe_lst (pa_cons (pe_op op_sub (pe_un un_neg pe_int) (pv 3)) (pa_cons (pe_callB call_len_seq (by rfl) T.z_len (by decide +kernel) (pa_cons (pv 4) pa_nil)) (pa_cons (pe_op op_add (pe_callB call_len_seq (by rfl) T.z_len (by decide +kernel) (pa_cons (pv 4) pa_nil)) (pe_call (ok_l_draw T) (hr.mono (by decide)) (by rfl) T.g_l_draw T.k_l_draw T.b_l_draw .nil pass0 (pa_cons (pv 1) (pa_cons (pe_op op_pow pe_int pe_int) pa_nil)))) (pa_cons (pe_op op_sub (pe_op op_sub (pe_un un_neg pe_int) (pv 3)) (pe_call (ok_l_draw T) (hr.mono (by decide)) (by rfl) T.g_l_draw T.k_l_draw T.b_l_draw .nil pass0 (pa_cons (pv 1) (pa_cons (pe_op op_pow pe_int pe_int) pa_nil)))) pa_nil)))))) (pg_name (i := 10) sc_law.nd rfl (Or.inl rfl))
    (pss_one (ps_if (PW.pt (pw_or (pt_cmpR (op_neD hr.units) (pe_call (ok_l_asked T) (hr.mono (by decide)) (by rfl) T.g_l_asked T.k_l_asked T.b_l_asked .nil pass0 (pa_cons (pv 6) (pa_cons (pv 10) pa_nil))) (pe_tup (pa_cons pe_str (pa_cons (pv 10) pa_nil))) (nomark _)) (pw_or1 (pt_cmpR (op_neD hr.units) (pe_call (ok_l_reach T) (hr.mono (by decide)) (by rfl) T.g_l_reach T.k_l_reach T.b_l_reach .nil pass0 (pa_cons (pv 6) (pa_cons (pv 10) pa_nil))) (pe_tup (pa_cons pe_str (pa_cons (pv 10) pa_nil))) (nomark _)))))
    (pss_one (ps_ret pe_bl))
    pss_nil)))
  (Evl.pss_cut (ps_set (i := 8) sc_law.nd rfl (Or.inr rfl) (pe_call (ok_l_led T) (hr.mono (by decide)) (by rfl) T.g_l_led T.k_l_led T.b_l_led .nil pass0 (pa_cons (pv 4) (pa_cons (pv 5) pa_nil))))
  (pss_one (ps_ret (pe_cmpR (op_eqD hr.units) (pe_meth0 (pv 6) T.cl_Web T.m_Web_reached (ok_Web_reached T) (hr.mono (by decide)) T.b_Web_reached .nil pass0) (pe_callTy call_tuple_of (by rfl) T.z_tuple (by decide +kernel) (pa_cons (pe_lc (own := [("_law_k", 14)]) (g := gName 14) (tt := (tTest (tOp (rIn K false) (tVar 14) (tVar 8)))) (te := (tVar 14)) rfl sc_law.nd (pi_range1 (by rfl) T.z_range (pa_cons (pe_callB call_len_seq (by rfl) T.z_len (by decide +kernel) (pa_cons (pv 4) pa_nil)) pa_nil)) (blkOk_by (N := N_law) (sc := defScope s_law) (by decide +kernel)) (fun _ _ _ _ _ => pg_name (i := 14) sc_law.nd rfl (Or.inl rfl)) (fun _ _ _ _ _ => by exact (pts_one (pt_cmpR op_in_seq (pv 14) (pv 8) (by with_unfolding_all rfl)))) (fun _ _ _ _ _ => by exact (pv 14))) pa_nil)) (nomark _))))))))))))), ?_⟩
    refine ⟨fun σ H1 => ∃ p, σ = [some (.ref x), some (.ref p), none, none, none, none, none, none, none, none, none, none, none, none, none] ∧ PoolOk K p 0 H1, ?_, ?_⟩
    · exact ⟨_, rfl, x, ns, rfl, hx, fun p H1 np f1 p1 => ⟨p, rfl, p1⟩⟩
    rintro σ H1 ⟨p, rfl, p1⟩
    refine ⟨fun σ H2 => ∃ nm, ∃ l : List Int, σ = [some (.ref x), some (.ref p), some (.ref nm), none, none, none, none, none, none, none, none, none, none, none, none] ∧ PoolOk K p 100 H2 ∧ H2 nm = some (.lst (l.map V.int)) ∧ Qn l ∧ l ≠ [] ∧ (l.length : Int) ≤ 7, ?_, ?_⟩
    · exact ⟨_, rfl, p, 0, 7, rfl, p1, by decide, by decide, by decide, fun H2 D l nD g2 p2 hD hq hne hll hnd => ⟨D, l, rfl, p2, hD, hq, hne, hll⟩⟩
    rintro σ H2 ⟨nm, l, rfl, p2, hnm, hqn, hne, hll⟩
    refine ⟨fun σ H3 => ∃ e : Int, σ = [some (.ref x), some (.ref p), some (.ref nm), some (.int e), none, none, none, none, none, none, none, none, none, none, none] ∧ 1 ≤ e ∧ e ≤ 5 ∧ PoolOk K p 101 H3 ∧ H3 nm = some (.lst (l.map V.int)), ?_, ?_⟩
    · exact ⟨_, rfl, p, 100, 5, rfl, p2, by decide, by decide, by decide, fun H3 r g3 p3 r0 r1 => ⟨_, _, rfl, rfl, 1 + r, rfl, by omega, by omega, p3, g3.1 _ _ (np_ints _) hnm⟩⟩
    rintro σ H3 ⟨e, rfl, e1, e5, p3, hnm3⟩
    refine ⟨fun σ H4 => ∃ q as rows bels, σ = [some (.ref x), some (.ref p), some (.ref nm), some (.int e), some (.ref q), none, none, none, none, none, none, none, none, none, none] ∧ PoolOk K p 1102 H4 ∧ H4 q = some (.lst (as.map V.ref)) ∧ RowsAt H4 as rows ∧ rows.length ≤ 10 ∧ GoodS e rows.length l rows bels, ?_, ?_⟩
    · refine ⟨_, rfl, _, rfl, p, 101, 11, rfl, p3, by decide, by decide, by decide, fun H4 r g4 p4 r0 r1 => ?_⟩
      obtain ⟨N, rfl⟩ : ∃ N : Nat, r = (N : Int) := ⟨r.toNat, by omega⟩
      refine ⟨_, rfl, _, rfl, p, nm, 102, N, e, true, l, rfl, p4, by decide, by omega, e1, by omega, g4.1 _ _ (np_ints _) hnm3, hne, by omega, fun H5 D as rows bels nD g5 p5 hD hr hN hS => ?_⟩
      subst hN
      exact ⟨D, as, rows, bels, rfl, p5, hD, hr, by omega, hS⟩
    rintro σ H4 ⟨q, as, rows, bels, rfl, p4, hq, hrows, hlen, hS⟩
    have asl : as.length = rows.length := hrows.1
    have elen : (as.map V.ref).length = rows.length := by rw [List.length_map, hrows.1]
    refine ⟨fun σ H5 => ∃ o : Int, -e ≤ o ∧ o < rows.length ∧ σ = [some (.ref x), some (.ref p), some (.ref nm), some (.int e), some (.ref q), some (.int o), none, none, none, none, none, none, none, none, none] ∧ PoolOk K p 1103 H5 ∧ H5 q = some (.lst (as.map V.ref)) ∧ RowsAt H5 as rows, ?_, ?_⟩
    · refine ⟨_, rfl, _, rfl, q, _, rfl, .inl (lst_of hq), _, rfl, _, _, rfl, rfl, p, 1102, _, rfl, p4, by decide, ?_, ?_, fun H5 r g5 p5 r0 r1 => ?_⟩
      · rw [elen]; omega
      · rw [elen]; omega
      · rw [elen] at r1
        exact ⟨_, rfl, _, _, rfl, rfl, r - e, by omega, by omega, rfl, p5, g5.1 _ _ (np_refs _) hq, hrows.gd g5⟩
    rintro σ H5 ⟨o, o1, o2, rfl, p5, hq5, hrows5⟩
    have G : GoodW rows e o := hS.good hqn e1 (by omega) (by omega) o1 o2
    refine ⟨fun σ H6 => ∃ wb, σ = [some (.ref x), some (.ref p), some (.ref nm), some (.int e), some (.ref q), some (.int o), some (.ref wb), none, none, none, none, none, none, none, none] ∧ PoolOk K p 1103 H6 ∧ H6 q = some (.lst (as.map V.ref)) ∧ RowsAt H6 as rows ∧ WebAt a.c_Web H6 wb rows e o, ?_, ?_⟩
    · exact ⟨_, rfl, _, rfl, _, rfl, rfl, rfl, fun y dy ny nd ndy => made ny nd ndy (lst_of hq5) hrows5.1 (fun i b row h1 h2 => .inl (hrows5.2 i b row h1 h2)) G fun H6 w6 f6 => ⟨rfl, y, rfl, p5.same f6, f6 _ _ hq5, hrows5.same f6, w6⟩⟩
    rintro σ H6 ⟨wb, rfl, p6, hq, hrows, hw⟩
    -- each position
    refine ⟨fun σ H7 => ∃ v7 v8 v9, σ = [some (.ref x), some (.ref p), some (.ref nm), some (.int e), some (.ref q), some (.int o), some (.ref wb), v7, v8, v9, none, none, none, none, none] ∧ Same H6 H7, ?_, ?_⟩
    · refine ⟨_, rfl, _, rfl, _, rfl, q, _, rfl, .inl (lst_of hq), _, _, rfl, ⟨by omega, by omega, by omega, by rw [elen]; omega⟩, ?_⟩
      rw [elen]
      refine for_range (lo := -e) (n := ((rows.length : Int) - -e).toNat) (fun i σ H7 => ∃ v7 v8 v9, σ = [some (.ref x), some (.ref p), some (.ref nm), some (.int e), some (.ref q), some (.int o), some (.ref wb), v7, v8, v9, none, none, none, none, none] ∧ Same H6 H7) ⟨_, _, _, rfl, Same.refl _⟩ ?_ (fun σ H7 h => h)
      rintro i σ H7 hi ⟨v7, v8, v9, rfl, f7⟩
      have z1 : -e ≤ -e + (i : Int) := by omega
      have z2 : -e + (i : Int) < rows.length := by omega
      generalize -e + (i : Int) = z at z1 z2
      -- what is led to
      refine ⟨fun σ H8 => ∃ M, ∃ ml : List Int, σ = [some (.ref x), some (.ref p), some (.ref nm), some (.int e), some (.ref q), some (.int o), some (.ref wb), some (.int z), some (.ref M), v9, none, none, none, none, none] ∧ Same H6 H8 ∧ H8 M = some (.lst (ml.map V.int)) ∧ (∀ j, j ∈ ml ↔ Led rows z j) ∧ ml.length ≤ 100, ?_, ?_⟩
      · exact ⟨_, rfl, _, rfl, q, as, rows, e, o, z, rfl, f7 _ _ hq, hrows.same f7, G, by omega, fun H8 D ml f8 hD hml hlen => ⟨D, ml, rfl, f7.trans f8, hD, hml, hlen⟩⟩
      rintro σ H8 ⟨M, ml, rfl, f8, hM, hml, hmlen⟩
      -- the questions
      refine ⟨fun σ H9 => ∃ A9, ∃ al : List Int, σ = [some (.ref x), some (.ref p), some (.ref nm), some (.int e), some (.ref q), some (.int o), some (.ref wb), some (.int z), some (.ref M), some (.ref A9), none, none, none, none, none] ∧ Same H6 H9 ∧ H9 M = some (.lst (ml.map V.int)) ∧ H9 A9 = some (.lst (al.map V.int)) ∧ IsAsked rows z al, ?_, ?_⟩
      · refine ⟨_, rfl, M, rfl, ⟨_, lst_of hM⟩, fun C nC => ?_⟩
        refine lc_list (K := K) (a := M) (xs := ml.map V.int) (fun i H2 => Same H8 H2 ∧ ∃ acc : List Int, H2 C = some (.lst (acc.map V.int)) ∧ acc.length ≤ i ∧ ∀ k, k ∈ acc ↔ ∃ (j : Nat) (r : List Int), (j : Int) ∈ ml.take i ∧ rows[j]? = some (k :: r)) ⟨same_upd nC, [], upd_same, Nat.le_refl _, fun k => ⟨fun h => (nomatch h), fun ⟨j, r, h, _⟩ => (nomatch h)⟩⟩ (fun i H2 _ h => lst_of (h.1 _ _ hM)) (fun i y H2 hi h => ?_) (fun H2 h => ?_)
        · obtain ⟨f2, acc, hC, hacc, hm⟩ := h
          obtain ⟨pp, hp, rfl⟩ := get_map_int hi
          have hil : i < ml.length := (List.getElem?_eq_some_iff.mp hp).1
          refine ⟨rfl, _, rfl, _, _, rfl, rfl, _, rfl, ite2 (fun h0 => ?_) (fun h0 => ?_)⟩
          · have h0 : 0 ≤ pp := of_decide_eq_true h0
            have hpb := ((hml pp).mp (List.mem_of_getElem? hp)).bounds G z1 z2
            obtain ⟨n, rfl⟩ : ∃ n : Nat, pp = (n : Int) := ⟨pp.toNat, by omega⟩
            obtain ⟨an, row, han, hrn, hrw⟩ := rows_get (hrows.same (f8.trans f2)) (show n < rows.length by omega)
            obtain ⟨qq, a', b', r, rfl, _⟩ := G.two hrn
            refine ⟨_, rfl, _, rfl, q, _, (n : Int), _, rfl, rfl, lst_of ((f8.trans f2) _ _ hq), at_tup (by rw [List.getElem?_map, han]; rfl), an, _, 0, .int qq, rfl, rfl, tup_of hrw, at_tup (j := 0) rfl, _, hC, by rw [List.length_map, sizeLine_eq]; omega, f2.mut nC, acc ++ [qq], by rw [upd_same, List.map_append]; rfl, by rw [List.length_append, List.length_singleton]; omega, fun k => ?_⟩
            rw [take_get hp, List.mem_append, List.mem_singleton, hm]
            constructor
            · rintro (⟨j, r, h1, h2⟩ | rfl)
              · exact ⟨j, r, List.mem_append.mpr (.inl h1), h2⟩
              · exact ⟨n, _, List.mem_append.mpr (.inr (List.mem_singleton.mpr rfl)), hrn⟩
            · rintro ⟨j, r, h1, h2⟩
              rcases List.mem_append.mp h1 with h1 | h1
              · exact .inl ⟨j, r, h1, h2⟩
              · have : j = n := by have := List.mem_singleton.mp h1; omega
                subst this
                rw [hrn] at h2
                simp only [Option.some.injEq, List.cons.injEq] at h2
                exact .inr h2.1.symm
          · refine ⟨f2, acc, hC, by omega, fun k => ?_⟩
            rw [take_get hp, hm]
            constructor
            · rintro ⟨j, r, h1, h2⟩
              exact ⟨j, r, List.mem_append.mpr (.inl h1), h2⟩
            · rintro ⟨j, r, h1, h2⟩
              rcases List.mem_append.mp h1 with h1 | h1
              · exact ⟨j, r, h1, h2⟩
              · have := List.mem_singleton.mp h1
                exact absurd (decide_eq_true (show 0 ≤ pp by omega)) h0
        · obtain ⟨f2, acc, hC, hacc, hm⟩ := h
          rw [List.length_map] at hacc hm
          rw [List.take_length] at hm
          refine ⟨C, acc, rfl, f8.trans f2, f2 _ _ hM, hC, fun k => ?_⟩
          rw [hm]
          exact ⟨fun ⟨j, r, h1, h2⟩ => ⟨j, r, (hml _).mp h1, h2⟩, fun ⟨j, r, h1, h2⟩ => ⟨j, r, (hml _).mpr h1, h2⟩⟩
      rintro σ H9 ⟨A9, al, rfl, f9, hM9, hA9, hAl⟩
      -- asked
      refine ⟨fun σ H10 => σ = [some (.ref x), some (.ref p), some (.ref nm), some (.int e), some (.ref q), some (.int o), some (.ref wb), some (.int z), some (.ref M), some (.ref A9), none, none, none, none, none] ∧ Same H9 H10, ?_, ?_⟩
      · refine ⟨_, rfl, _, rfl, wb, rows, e, o, z, rfl, hw.same f9, G, by omega, by omega, Bd.small (by omega) (by omega), fun _ H10 t l' f10 ht hA => ?_, fun h => absurd ⟨z1, z2⟩ h⟩
        refine ⟨_, rfl, by decide, by decide, fun D nD => lcR_filter (n := 48) (fun k => decide (k ∈ al)) nD (by decide) (fun _ => rfl) ?_ ?_ ?_⟩
        · intro y _ H' e' R r
          exact ⟨_, rfl, _, rfl, in_k (neg := false) (.inl (lst_of ((f10.trans e') _ _ hA9))) ⟨_, rfl, r⟩⟩
        · intro y _ H' e' R r
          exact ⟨_, rfl, r⟩
        · intro H11 e11 h11
          rw [norm_rg] at h11
          refine ⟨D, _, rfl, .inl ⟨lst_of h11, fun t2 nt2 => ?_⟩⟩
          have e12 := e11.trans (same_upd nt2 (o := .tup ((norm al).map V.int)))
          refine neD_tup (tup_of (e12 _ _ ht)) (tup_of upd_same) ⟨_, rfl, ?_⟩
          rw [norm_same (l := l') (l' := al) fun k => (hA k).trans (hAl k).symm, show (!decide (norm al = norm al)) = false by simp]
          exact iteF ⟨rfl, f10.trans e12⟩
      rintro σ H10 ⟨rfl, f10⟩
      have f10' := f9.trans f10
      -- reach
      refine ⟨_, rfl, _, rfl, wb, rows, e, o, z, rfl, hw.same f10', G, by omega, by omega, Bd.small (by omega) (by omega), fun _ H11 t l' f11 ht hA => ?_, fun h => absurd ⟨z1, z2⟩ h⟩
      have hM11 := (f10.trans f11) _ _ hM9
      refine ⟨_, rfl, _, rfl, by omega, by omega, fun D nD => lcR_filter (n := e.toNat) (fun k => decide (-1 - k ∈ ml)) nD (by omega) (fun _ => rfl) ?_ ?_ ?_⟩
      · intro y _ H' e' R r
        exact ⟨_, rfl, _, rfl, _, _, rfl, rfl, _, rfl, in_k (neg := false) (.inl (lst_of (e' _ _ hM11))) ⟨_, rfl, r⟩⟩
      · intro y _ H' e' R r
        exact ⟨_, rfl, r⟩
      · intro H12 e12 h12
        have en : (rgI e.toNat).filter (fun k => decide (-1 - k ∈ ml)) = norm l' := rg_filter (by omega) fun k => by
          rw [hA, decide_eq_true_eq, hml]
          constructor
          · rintro ⟨h1, h2⟩
            have := h2.bounds G z1 z2
            exact ⟨h1, by omega, h2⟩
          · rintro ⟨h1, _, h2⟩
            exact ⟨h1, h2⟩
        rw [en] at h12
        refine ⟨D, _, rfl, .inl ⟨lst_of h12, fun t2 nt2 => ?_⟩⟩
        have e13 := e12.trans (same_upd nt2 (o := .tup ((norm l').map V.int)))
        refine neD_tup (tup_of (e13 _ _ ht)) (tup_of upd_same) ⟨_, rfl, ?_⟩
        rw [show (!decide (norm l' = norm l')) = false by simp]
        exact iteF ⟨_, _, _, rfl, (f10'.trans f11).trans e13⟩
    rintro σ H7 ⟨v7, v8, v9, rfl, f7⟩
    have hq := f7 _ _ hq
    have hrows := hrows.same f7
    have hw := hw.same f7
    have p7 := p6.same f7
    -- numbers that are no positions
    refine ⟨fun σ H8 => ∃ v10, σ = [some (.ref x), some (.ref p), some (.ref nm), some (.int e), some (.ref q), some (.int o), some (.ref wb), v7, v8, v9, v10, none, none, none, none] ∧ Gd H7 H8, ?_, ?_⟩
    · refine ⟨_, rfl, _, rfl, _, _, rfl, rfl, _, rfl, q, _, rfl, .inl (lst_of hq), _, rfl, q, _, rfl, .inl (lst_of hq), _, rfl, _, 30, rfl, rfl, ⟨by decide, by decide, by decide⟩, p, 1103, 10 ^ 30, rfl, p7, by decide, by decide +kernel, by decide +kernel, fun H8 r8 g8 p8 r80 r81 => ⟨_, _, rfl, rfl, ?_⟩⟩
      refine ⟨_, rfl, _, rfl, _, _, rfl, rfl, _, rfl, _, 30, rfl, rfl, ⟨by decide, by decide, by decide⟩, p, 1104, 10 ^ 30, rfl, p8, by decide, by decide +kernel, by decide +kernel, fun H9 r9 g9 p9 r90 r91 => ⟨_, _, rfl, rfl, by show 4 ≤ sizeLine; decide, fun L nL => ?_⟩⟩
      have gL := (g8.trans g9).upd nL (o := .lst [V.int (-1 - e), V.int ((as.map V.ref).length : Nat), V.int (((as.map V.ref).length : Nat) + r8), V.int (-2 - e - r9)])
      have hLL : (upd H9 L (.lst [V.int (-1 - e), V.int ((as.map V.ref).length : Nat), V.int (((as.map V.ref).length : Nat) + r8), V.int (-2 - e - r9)])) L = some (.lst (([-1 - e, (rows.length : Int), (rows.length : Int) + r8, -2 - e - r9] : List Int).map V.int)) := by rw [upd_same, elen]; rfl
      have h30 : (10 : Int) ^ 30 = 1000000000000000000000000000000 := by decide +kernel
      rw [h30] at r81 r91
      refine ⟨L, rfl, ⟨_, lst_of hLL⟩, for_list (K := K) (a := L) (xs := ([-1 - e, (rows.length : Int), (rows.length : Int) + r8, -2 - e - r9] : List Int).map V.int) (fun i σ H10 => ∃ v10, σ = [some (.ref x), some (.ref p), some (.ref nm), some (.int e), some (.ref q), some (.int o), some (.ref wb), v7, v8, v9, v10, none, none, none, none] ∧ Same (upd H9 L (.lst [V.int (-1 - e), V.int ((as.map V.ref).length : Nat), V.int (((as.map V.ref).length : Nat) + r8), V.int (-2 - e - r9)])) H10) ⟨_, rfl, Same.refl _⟩ (fun i σ H10 _ ⟨_, _, f⟩ => lst_of (f _ _ hLL)) ?_ (fun σ H10 ⟨v10, h, f⟩ => ⟨v10, h, gL.trans f.gd⟩)⟩
      rintro i y σ H10 hi ⟨v10, rfl, f10⟩
      obtain ⟨zf, hzf, rfl⟩ := get_map_int hi
      have hout : ¬ (-e ≤ zf ∧ zf < rows.length) ∧ Bd zf := by
        have hm := List.mem_of_getElem? hzf
        simp only [List.mem_cons, List.not_mem_nil, or_false] at hm
        refine ⟨by omega, ?_⟩
        unfold Bd
        exact Nat.lt_of_lt_of_le (show zf.natAbs < 2 ^ 101 by omega) (Nat.pow_le_pow_right (by decide) (by decide))
      have hw10 := (hw.gd gL).same f10
      refine ⟨_, rfl, _, rfl, wb, rows, e, o, zf, rfl, hw10, G, by omega, by omega, hout.2, fun h => absurd h hout.1, fun _ H11 t f11 ht => ?_⟩
      refine ⟨_, rfl, by show 2 ≤ sizeLine; decide, fun t2 nt2 => ?_⟩
      have f12 := f11.trans (same_upd nt2 (o := .tup [.str "no position", .int zf]))
      refine neD_np ((same_upd nt2) _ _ ht) upd_same ⟨_, rfl, iteF ?_⟩
      refine ⟨_, rfl, _, rfl, wb, rows, e, o, zf, rfl, hw10.same f12, G, by omega, by omega, hout.2, fun h => absurd h hout.1, fun _ H13 t3 f13 ht3 => ?_⟩
      refine ⟨_, rfl, by show 2 ≤ sizeLine; decide, fun t4 nt4 => ?_⟩
      have f14 := f13.trans (same_upd nt4 (o := .tup [.str "no position", .int zf]))
      exact neD_np ((same_upd nt4) _ _ ht3) upd_same ⟨_, rfl, iteF ⟨_, rfl, f10.trans (f12.trans f14)⟩⟩
    rintro σ H8 ⟨v10, rfl, g8⟩
    have hq := g8.1 _ _ (np_refs _) hq
    have hrows := hrows.gd g8
    have hw := hw.gd g8
    -- reached
    refine ⟨fun σ H9 => ∃ M, ∃ ml : List Int, σ = [some (.ref x), some (.ref p), some (.ref nm), some (.int e), some (.ref q), some (.int o), some (.ref wb), v7, some (.ref M), v9, v10, none, none, none, none] ∧ Same H8 H9 ∧ H9 M = some (.lst (ml.map V.int)) ∧ (∀ j, j ∈ ml ↔ Led rows o j), ?_, ?_⟩
    · exact ⟨_, rfl, _, rfl, q, as, rows, e, o, o, rfl, hq, hrows, G, by omega, fun H9 D ml f9 hD hml hlen => ⟨D, ml, rfl, f9, hD, hml⟩⟩
    rintro σ H9 ⟨M, ml, rfl, f9, hM, hml⟩
    obtain ⟨dx, nx, ds, hx9, _⟩ := id (hw.same f9)
    refine ⟨_, rfl, wb, dx, _, rfl, hx9, rfl, wb, rows, e, o, rfl, hw.same f9, G, by omega, fun H10 t l' f10 ht hA => ?_⟩
    refine ⟨_, rfl, q, _, rfl, .inl (lst_of ((f9.trans f10) _ _ hq)), _, rfl, by omega, by rw [elen]; omega, fun D nD => ?_⟩
    rw [elen, Int.toNat_natCast]
    refine lcR_filter (n := rows.length) (fun k => decide (k ∈ ml)) nD (by omega) (fun _ => rfl) ?_ ?_ ?_
    · intro y _ H' e' R r
      exact ⟨_, rfl, _, rfl, in_k (neg := false) (.inl (lst_of ((f10.trans e') _ _ hM))) ⟨_, rfl, r⟩⟩
    · intro y _ H' e' R r
      exact ⟨_, rfl, r⟩
    · intro H12 e12 h12
      have en : (rgI rows.length).filter (fun k => decide (k ∈ ml)) = norm l' := rg_filter (by omega) fun k => by
        rw [hA, decide_eq_true_eq, hml]
        constructor
        · rintro ⟨h1, h2⟩
          exact ⟨h1, (h2.bounds G o1 o2).2, h2⟩
        · rintro ⟨h1, _, h2⟩
          exact ⟨h1, h2⟩
      rw [en] at h12
      refine ⟨D, _, rfl, .inl ⟨lst_of h12, fun t2 nt2 => ?_⟩⟩
      have e13 := e12.trans (same_upd nt2 (o := .tup ((norm l').map V.int)))
      refine eqD_tup (tup_of (e13 _ _ ht)) (tup_of upd_same) ?_
      rw [decide_eq_true (rfl : norm l' = norm l')]
      exact k _
end
theorem all_mk {l : PySem.W.OpenLaw} {w : World} {K : PySem.W.Frag} {h : Heap} {mg : Str → Option Value} {fa c_TestError c_NoPosition c_Web f_is_question f_Web_contains f_Web_len f_Web_first f_Web_can_stand f_asked_twice f_Web_init f_NoPosition_init f_Web_led_to f_Web_asked f_Web_reach f_Web_reached f_l_pool f_l_draw f_l_names f_l_target f_l_nodes f_l_led f_l_asked f_l_reach f_law : Addr} (X : K.In h) (G : h.Ns mainGlobals mg) (hfa : mg "law" = some (.ref fa))
    {t_QUESTIONS t_MOST_ENDS : Tok}
    {od_is_question an_is_question od_Web_contains an_Web_contains od_Web_len an_Web_len od_Web_first an_Web_first od_Web_can_stand an_Web_can_stand od_asked_twice an_asked_twice od_Web_init an_Web_init od_NoPosition_init an_NoPosition_init od_Web_led_to an_Web_led_to od_Web_asked an_Web_asked od_Web_reach an_Web_reach od_Web_reached an_Web_reached od_l_pool an_l_pool od_l_draw an_l_draw od_l_names an_l_names od_l_target an_l_target od_l_nodes an_l_nodes od_l_led an_l_led od_l_asked an_l_asked od_l_reach an_l_reach od_law an_law : Option Addr}
    {sl_is_question sl_Web_contains sl_Web_len sl_Web_first sl_Web_can_stand sl_asked_twice sl_Web_init sl_NoPosition_init sl_Web_led_to sl_Web_asked sl_Web_reach sl_Web_reached sl_l_pool sl_l_draw sl_l_names sl_l_target sl_l_nodes sl_l_led sl_l_asked sl_l_reach sl_law : Array (Option Value)}
    {kD_Web_init : Addr}
    {oc_is_question kV_is_question dc_is_question pm_is_question cd_is_question ct_is_question oc_Web_contains kV_Web_contains dc_Web_contains pm_Web_contains cd_Web_contains ct_Web_contains oc_Web_len kV_Web_len dc_Web_len pm_Web_len cd_Web_len ct_Web_len oc_Web_first kV_Web_first dc_Web_first pm_Web_first cd_Web_first ct_Web_first oc_Web_can_stand kV_Web_can_stand dc_Web_can_stand pm_Web_can_stand cd_Web_can_stand ct_Web_can_stand oc_asked_twice kV_asked_twice dc_asked_twice pm_asked_twice cd_asked_twice ct_asked_twice oc_Web_init dc_Web_init pm_Web_init cd_Web_init ct_Web_init oc_NoPosition_init kV_NoPosition_init dc_NoPosition_init pm_NoPosition_init cd_NoPosition_init ct_NoPosition_init oc_Web_led_to kV_Web_led_to dc_Web_led_to pm_Web_led_to cd_Web_led_to ct_Web_led_to oc_Web_asked kV_Web_asked dc_Web_asked pm_Web_asked cd_Web_asked ct_Web_asked oc_Web_reach kV_Web_reach dc_Web_reach pm_Web_reach cd_Web_reach ct_Web_reach oc_Web_reached kV_Web_reached dc_Web_reached pm_Web_reached cd_Web_reached ct_Web_reached oc_l_pool kV_l_pool dc_l_pool pm_l_pool cd_l_pool ct_l_pool oc_l_draw kV_l_draw dc_l_draw pm_l_draw cd_l_draw ct_l_draw oc_l_names kV_l_names dc_l_names pm_l_names cd_l_names ct_l_names oc_l_target kV_l_target dc_l_target pm_l_target cd_l_target ct_l_target oc_l_nodes kV_l_nodes dc_l_nodes pm_l_nodes cd_l_nodes ct_l_nodes oc_l_led kV_l_led dc_l_led pm_l_led cd_l_led ct_l_led oc_l_asked kV_l_asked dc_l_asked pm_l_asked cd_l_asked ct_l_asked oc_l_reach kV_l_reach dc_l_reach pm_l_reach cd_l_reach ct_l_reach oc_law kV_law dc_law pm_law cd_law ct_law : Value}
    {nm_NoPosition qn_NoPosition : Str} {ns_NoPosition : Addr} {bs_NoPosition : List Value} {sn_NoPosition : List Str} {sub_NoPosition : List Value} {ab_NoPosition : Bool} {col_NoPosition : Option Bool} {dd_NoPosition : Option Addr} {m0_NoPosition m1_NoPosition m2_NoPosition m3_NoPosition m5_NoPosition : Option Value}
    (h_g_TestError : PySem.W.nsIn K mainGlobals "TestError" = some (some (.ref c_TestError)))
    (h_g_NoPosition : PySem.W.nsIn K mainGlobals "NoPosition" = some (some (.ref c_NoPosition)))
    (h_g_Web : PySem.W.nsIn K mainGlobals "Web" = some (some (.ref c_Web)))
    (h_pg_Web : PySem.W.plainGet K c_Web Str.empty = true)
    (h_hd_Web : PySem.W.hasDictIn K c_Web = true)
    (h_po_Web : PySem.W.plainOver K c_Web = true)
    (h_sa_Web : PySem.W.findIn K (.ref c_Web) "__setattr__" = some (some (.builtin "object.__setattr__")))
    (h_mkk_Web : PySem.W.makesIn K c_Web = true)
    (h_kc_Web : PySem.W.keepIn K (.ref c_Web) = true)
    (h_nA_Web_nodes : PySem.W.findIn K (.ref c_Web) "nodes" = some none)
    (h_nA_Web_ends : PySem.W.findIn K (.ref c_Web) "ends" = some none)
    (h_nA_Web_start : PySem.W.findIn K (.ref c_Web) "start" = some none)
    (h_bga_TestError : PySem.W.specialIn K (.ref c_TestError) "__getattribute__" = some (some (.builtin "type.__getattribute__")))
    (h_ty_TestError : PySem.W.typeIn K (.ref c_TestError) = some (.type "type"))
    (h_brd_TestError : PySem.W.readsIn K c_TestError (.type "type") = true)
    (h_bfi_TestError : PySem.W.findCls K (.ref c_TestError) (.type "type") "__init__" = some (.val (.builtin "ValueError.__init__")))
    (h_xl_NoPosition : K.lookup c_NoPosition = some (excClassObj nm_NoPosition qn_NoPosition c_NoPosition ns_NoPosition bs_NoPosition [.ref c_TestError, .type "ValueError", .type "Exception", .type "BaseException", .type "object"] true sn_NoPosition sub_NoPosition ab_NoPosition col_NoPosition dd_NoPosition m0_NoPosition m1_NoPosition m2_NoPosition m3_NoPosition m5_NoPosition "ValueError.__new__"))
    (h_sa_NoPosition : PySem.W.findIn K (.ref c_NoPosition) "__setattr__" = some (some (.builtin "object.__setattr__")))
    (h_eb_NoPosition : PySem.W.subIn K (.ref c_NoPosition) (.type "BaseException") = some true)
    (h_ty_NoPosition : PySem.W.typeIn K (.ref c_NoPosition) = some (.type "type"))
    (h_kc_NoPosition : PySem.W.keepIn K (.ref c_NoPosition) = true)
    (h_ga_NoPosition : PySem.W.findIn K (.ref c_NoPosition) "__getattribute__" = some (some (.builtin "BaseException.__getattribute__")))
    (h_gg_NoPosition : PySem.W.findIn K (.ref c_NoPosition) "__getattr__" = some none)
    (h_hd_NoPosition : PySem.W.hasDictIn K c_NoPosition = true)
    (h_ss_NoPosition : PySem.W.subIn K (.ref c_NoPosition) (.ref c_NoPosition) = some true)
    (h_ic1_NoPosition : PySem.W.findIn K (.ref c_NoPosition) "__class__" = some (some (.builtin "object.__class__")))
    (h_eg2 : PySem.W.specialIn K (.builtin "object.__class__") "__get__" = some (some (.builtin "getset_descriptor.__get__")))
    (h_eg3 : PySem.W.takesIn K (.builtin "object.__class__") = some true)
    (h_ic4_NoPosition : PySem.W.mroIn K c_NoPosition (.type "object") = some true)
    (h_nf_NoPosition_place : PySem.W.findIn K (.ref c_NoPosition) "place" = some none)
    (h_sb_NoPosition : PySem.W.subIn K (.ref c_NoPosition) (.ref c_TestError) = some true)
    (h_icl_TestError : PySem.W.isClsIn K c_TestError = true)
    (h_a_is_question : PySem.W.nsIn K mainGlobals "is_question" = some (some (.ref f_is_question)))
    (h_l_is_question : K.lookup f_is_question = some ⟨oc_is_question, od_is_question, .func (PySem.W.fnOf "is_question" "is_question" (defArgs s_is_question) (defBody s_is_question) (defScope s_is_question) .none kV_is_question dc_is_question pm_is_question an_is_question cd_is_question ct_is_question), sl_is_question⟩)
    (h_c_is_question : PySem.W.codeIn K cd_is_question "is_question" = true)
    (h_k_is_question : PySem.W.keepIn K (.ref f_is_question) = true)
    (h_a_Web_contains : PySem.W.findIn K (.ref c_Web) "__contains__" = some (some (.ref f_Web_contains)))
    (h_i_Web_contains : PySem.W.isFn K (.ref f_Web_contains) = true)
    (h_l_Web_contains : K.lookup f_Web_contains = some ⟨oc_Web_contains, od_Web_contains, .func (PySem.W.fnOf "__contains__" "Web.__contains__" (defArgs s_Web_contains) (defBody s_Web_contains) (defScope s_Web_contains) .none kV_Web_contains dc_Web_contains pm_Web_contains an_Web_contains cd_Web_contains ct_Web_contains), sl_Web_contains⟩)
    (h_c_Web_contains : PySem.W.codeIn K cd_Web_contains "Web.__contains__" = true)
    (h_k_Web_contains : PySem.W.keepIn K (.ref f_Web_contains) = true)
    (h_a_Web_len : PySem.W.findIn K (.ref c_Web) "__len__" = some (some (.ref f_Web_len)))
    (h_i_Web_len : PySem.W.isFn K (.ref f_Web_len) = true)
    (h_l_Web_len : K.lookup f_Web_len = some ⟨oc_Web_len, od_Web_len, .func (PySem.W.fnOf "__len__" "Web.__len__" (defArgs s_Web_len) (defBody s_Web_len) (defScope s_Web_len) .none kV_Web_len dc_Web_len pm_Web_len an_Web_len cd_Web_len ct_Web_len), sl_Web_len⟩)
    (h_c_Web_len : PySem.W.codeIn K cd_Web_len "Web.__len__" = true)
    (h_k_Web_len : PySem.W.keepIn K (.ref f_Web_len) = true)
    (h_a_Web_first : PySem.W.findIn K (.ref c_Web) "_first" = some (some (.ref f_Web_first)))
    (h_i_Web_first : PySem.W.isFn K (.ref f_Web_first) = true)
    (h_l_Web_first : K.lookup f_Web_first = some ⟨oc_Web_first, od_Web_first, .func (PySem.W.fnOf "_first" "Web._first" (defArgs s_Web_first) (defBody s_Web_first) (defScope s_Web_first) .none kV_Web_first dc_Web_first pm_Web_first an_Web_first cd_Web_first ct_Web_first), sl_Web_first⟩)
    (h_c_Web_first : PySem.W.codeIn K cd_Web_first "Web._first" = true)
    (h_k_Web_first : PySem.W.keepIn K (.ref f_Web_first) = true)
    (h_a_Web_can_stand : PySem.W.findIn K (.ref c_Web) "_can_stand" = some (some (.ref f_Web_can_stand)))
    (h_i_Web_can_stand : PySem.W.isFn K (.ref f_Web_can_stand) = true)
    (h_l_Web_can_stand : K.lookup f_Web_can_stand = some ⟨oc_Web_can_stand, od_Web_can_stand, .func (PySem.W.fnOf "_can_stand" "Web._can_stand" (defArgs s_Web_can_stand) (defBody s_Web_can_stand) (defScope s_Web_can_stand) .none kV_Web_can_stand dc_Web_can_stand pm_Web_can_stand an_Web_can_stand cd_Web_can_stand ct_Web_can_stand), sl_Web_can_stand⟩)
    (h_c_Web_can_stand : PySem.W.codeIn K cd_Web_can_stand "Web._can_stand" = true)
    (h_k_Web_can_stand : PySem.W.keepIn K (.ref f_Web_can_stand) = true)
    (h_a_asked_twice : PySem.W.nsIn K mainGlobals "_asked_twice" = some (some (.ref f_asked_twice)))
    (h_l_asked_twice : K.lookup f_asked_twice = some ⟨oc_asked_twice, od_asked_twice, .func (PySem.W.fnOf "_asked_twice" "_asked_twice" (defArgs s_asked_twice) (defBody s_asked_twice) (defScope s_asked_twice) .none kV_asked_twice dc_asked_twice pm_asked_twice an_asked_twice cd_asked_twice ct_asked_twice), sl_asked_twice⟩)
    (h_c_asked_twice : PySem.W.codeIn K cd_asked_twice "_asked_twice" = true)
    (h_k_asked_twice : PySem.W.keepIn K (.ref f_asked_twice) = true)
    (h_a_Web_init : PySem.W.findIn K (.ref c_Web) "__init__" = some (some (.ref f_Web_init)))
    (h_i_Web_init : PySem.W.isFn K (.ref f_Web_init) = true)
    (h_l_Web_init : K.lookup f_Web_init = some ⟨oc_Web_init, od_Web_init, .func (PySem.W.fnOf "__init__" "Web.__init__" (defArgs s_Web_init) (defBody s_Web_init) (defScope s_Web_init) .none (.ref kD_Web_init) dc_Web_init pm_Web_init an_Web_init cd_Web_init ct_Web_init), sl_Web_init⟩)
    (h_c_Web_init : PySem.W.codeIn K cd_Web_init "Web.__init__" = true)
    (h_k_Web_init : PySem.W.keepIn K (.ref f_Web_init) = true)
    (h_kd_Web_init_start : PySem.W.nsIn K kD_Web_init "start" = some (some .none))
    (h_a_NoPosition_init : PySem.W.findIn K (.ref c_NoPosition) "__init__" = some (some (.ref f_NoPosition_init)))
    (h_i_NoPosition_init : PySem.W.isFn K (.ref f_NoPosition_init) = true)
    (h_l_NoPosition_init : K.lookup f_NoPosition_init = some ⟨oc_NoPosition_init, od_NoPosition_init, .func (PySem.W.fnOf "__init__" "NoPosition.__init__" (defArgs s_NoPosition_init) (defBody s_NoPosition_init) (defScope s_NoPosition_init) .none kV_NoPosition_init dc_NoPosition_init pm_NoPosition_init an_NoPosition_init cd_NoPosition_init ct_NoPosition_init), sl_NoPosition_init⟩)
    (h_c_NoPosition_init : PySem.W.codeIn K cd_NoPosition_init "NoPosition.__init__" = true)
    (h_k_NoPosition_init : PySem.W.keepIn K (.ref f_NoPosition_init) = true)
    (h_a_Web_led_to : PySem.W.findIn K (.ref c_Web) "_led_to" = some (some (.ref f_Web_led_to)))
    (h_i_Web_led_to : PySem.W.isFn K (.ref f_Web_led_to) = true)
    (h_l_Web_led_to : K.lookup f_Web_led_to = some ⟨oc_Web_led_to, od_Web_led_to, .func (PySem.W.fnOf "_led_to" "Web._led_to" (defArgs s_Web_led_to) (defBody s_Web_led_to) (defScope s_Web_led_to) .none kV_Web_led_to dc_Web_led_to pm_Web_led_to an_Web_led_to cd_Web_led_to ct_Web_led_to), sl_Web_led_to⟩)
    (h_c_Web_led_to : PySem.W.codeIn K cd_Web_led_to "Web._led_to" = true)
    (h_k_Web_led_to : PySem.W.keepIn K (.ref f_Web_led_to) = true)
    (h_a_Web_asked : PySem.W.findIn K (.ref c_Web) "asked" = some (some (.ref f_Web_asked)))
    (h_i_Web_asked : PySem.W.isFn K (.ref f_Web_asked) = true)
    (h_l_Web_asked : K.lookup f_Web_asked = some ⟨oc_Web_asked, od_Web_asked, .func (PySem.W.fnOf "asked" "Web.asked" (defArgs s_Web_asked) (defBody s_Web_asked) (defScope s_Web_asked) .none kV_Web_asked dc_Web_asked pm_Web_asked an_Web_asked cd_Web_asked ct_Web_asked), sl_Web_asked⟩)
    (h_c_Web_asked : PySem.W.codeIn K cd_Web_asked "Web.asked" = true)
    (h_k_Web_asked : PySem.W.keepIn K (.ref f_Web_asked) = true)
    (h_a_Web_reach : PySem.W.findIn K (.ref c_Web) "reach" = some (some (.ref f_Web_reach)))
    (h_i_Web_reach : PySem.W.isFn K (.ref f_Web_reach) = true)
    (h_l_Web_reach : K.lookup f_Web_reach = some ⟨oc_Web_reach, od_Web_reach, .func (PySem.W.fnOf "reach" "Web.reach" (defArgs s_Web_reach) (defBody s_Web_reach) (defScope s_Web_reach) .none kV_Web_reach dc_Web_reach pm_Web_reach an_Web_reach cd_Web_reach ct_Web_reach), sl_Web_reach⟩)
    (h_c_Web_reach : PySem.W.codeIn K cd_Web_reach "Web.reach" = true)
    (h_k_Web_reach : PySem.W.keepIn K (.ref f_Web_reach) = true)
    (h_a_Web_reached : PySem.W.findIn K (.ref c_Web) "reached" = some (some (.ref f_Web_reached)))
    (h_i_Web_reached : PySem.W.isFn K (.ref f_Web_reached) = true)
    (h_l_Web_reached : K.lookup f_Web_reached = some ⟨oc_Web_reached, od_Web_reached, .func (PySem.W.fnOf "reached" "Web.reached" (defArgs s_Web_reached) (defBody s_Web_reached) (defScope s_Web_reached) .none kV_Web_reached dc_Web_reached pm_Web_reached an_Web_reached cd_Web_reached ct_Web_reached), sl_Web_reached⟩)
    (h_c_Web_reached : PySem.W.codeIn K cd_Web_reached "Web.reached" = true)
    (h_k_Web_reached : PySem.W.keepIn K (.ref f_Web_reached) = true)
    (h_a_l_pool : PySem.W.nsIn K mainGlobals "_law_pool" = some (some (.ref f_l_pool)))
    (h_l_l_pool : K.lookup f_l_pool = some ⟨oc_l_pool, od_l_pool, .func (PySem.W.fnOf "_law_pool" "_law_pool" (defArgs s_l_pool) (defBody s_l_pool) (defScope s_l_pool) .none kV_l_pool dc_l_pool pm_l_pool an_l_pool cd_l_pool ct_l_pool), sl_l_pool⟩)
    (h_c_l_pool : PySem.W.codeIn K cd_l_pool "_law_pool" = true)
    (h_k_l_pool : PySem.W.keepIn K (.ref f_l_pool) = true)
    (h_a_l_draw : PySem.W.nsIn K mainGlobals "_law_draw" = some (some (.ref f_l_draw)))
    (h_l_l_draw : K.lookup f_l_draw = some ⟨oc_l_draw, od_l_draw, .func (PySem.W.fnOf "_law_draw" "_law_draw" (defArgs s_l_draw) (defBody s_l_draw) (defScope s_l_draw) .none kV_l_draw dc_l_draw pm_l_draw an_l_draw cd_l_draw ct_l_draw), sl_l_draw⟩)
    (h_c_l_draw : PySem.W.codeIn K cd_l_draw "_law_draw" = true)
    (h_k_l_draw : PySem.W.keepIn K (.ref f_l_draw) = true)
    (h_a_l_names : PySem.W.nsIn K mainGlobals "_law_names" = some (some (.ref f_l_names)))
    (h_l_l_names : K.lookup f_l_names = some ⟨oc_l_names, od_l_names, .func (PySem.W.fnOf "_law_names" "_law_names" (defArgs s_l_names) (defBody s_l_names) (defScope s_l_names) .none kV_l_names dc_l_names pm_l_names an_l_names cd_l_names ct_l_names), sl_l_names⟩)
    (h_c_l_names : PySem.W.codeIn K cd_l_names "_law_names" = true)
    (h_k_l_names : PySem.W.keepIn K (.ref f_l_names) = true)
    (h_a_l_target : PySem.W.nsIn K mainGlobals "_law_target" = some (some (.ref f_l_target)))
    (h_l_l_target : K.lookup f_l_target = some ⟨oc_l_target, od_l_target, .func (PySem.W.fnOf "_law_target" "_law_target" (defArgs s_l_target) (defBody s_l_target) (defScope s_l_target) .none kV_l_target dc_l_target pm_l_target an_l_target cd_l_target ct_l_target), sl_l_target⟩)
    (h_c_l_target : PySem.W.codeIn K cd_l_target "_law_target" = true)
    (h_k_l_target : PySem.W.keepIn K (.ref f_l_target) = true)
    (h_a_l_nodes : PySem.W.nsIn K mainGlobals "_law_nodes" = some (some (.ref f_l_nodes)))
    (h_l_l_nodes : K.lookup f_l_nodes = some ⟨oc_l_nodes, od_l_nodes, .func (PySem.W.fnOf "_law_nodes" "_law_nodes" (defArgs s_l_nodes) (defBody s_l_nodes) (defScope s_l_nodes) .none kV_l_nodes dc_l_nodes pm_l_nodes an_l_nodes cd_l_nodes ct_l_nodes), sl_l_nodes⟩)
    (h_c_l_nodes : PySem.W.codeIn K cd_l_nodes "_law_nodes" = true)
    (h_k_l_nodes : PySem.W.keepIn K (.ref f_l_nodes) = true)
    (h_a_l_led : PySem.W.nsIn K mainGlobals "_law_led" = some (some (.ref f_l_led)))
    (h_l_l_led : K.lookup f_l_led = some ⟨oc_l_led, od_l_led, .func (PySem.W.fnOf "_law_led" "_law_led" (defArgs s_l_led) (defBody s_l_led) (defScope s_l_led) .none kV_l_led dc_l_led pm_l_led an_l_led cd_l_led ct_l_led), sl_l_led⟩)
    (h_c_l_led : PySem.W.codeIn K cd_l_led "_law_led" = true)
    (h_k_l_led : PySem.W.keepIn K (.ref f_l_led) = true)
    (h_a_l_asked : PySem.W.nsIn K mainGlobals "_law_asked" = some (some (.ref f_l_asked)))
    (h_l_l_asked : K.lookup f_l_asked = some ⟨oc_l_asked, od_l_asked, .func (PySem.W.fnOf "_law_asked" "_law_asked" (defArgs s_l_asked) (defBody s_l_asked) (defScope s_l_asked) .none kV_l_asked dc_l_asked pm_l_asked an_l_asked cd_l_asked ct_l_asked), sl_l_asked⟩)
    (h_c_l_asked : PySem.W.codeIn K cd_l_asked "_law_asked" = true)
    (h_k_l_asked : PySem.W.keepIn K (.ref f_l_asked) = true)
    (h_a_l_reach : PySem.W.nsIn K mainGlobals "_law_reach" = some (some (.ref f_l_reach)))
    (h_l_l_reach : K.lookup f_l_reach = some ⟨oc_l_reach, od_l_reach, .func (PySem.W.fnOf "_law_reach" "_law_reach" (defArgs s_l_reach) (defBody s_l_reach) (defScope s_l_reach) .none kV_l_reach dc_l_reach pm_l_reach an_l_reach cd_l_reach ct_l_reach), sl_l_reach⟩)
    (h_c_l_reach : PySem.W.codeIn K cd_l_reach "_law_reach" = true)
    (h_k_l_reach : PySem.W.keepIn K (.ref f_l_reach) = true)
    (h_a_law : PySem.W.nsIn K mainGlobals "law" = some (some (.ref f_law)))
    (h_l_law : K.lookup f_law = some ⟨oc_law, od_law, .func (PySem.W.fnOf "law" "law" (defArgs s_law) (defBody s_law) (defScope s_law) .none kV_law dc_law pm_law an_law cd_law ct_law), sl_law⟩)
    (h_c_law : PySem.W.codeIn K cd_law "law" = true)
    (h_k_law : PySem.W.keepIn K (.ref f_law) = true)
    (h_ti_NoPosition : PySem.W.typeIn K (.ref f_NoPosition_init) = some (.type "function"))
    (h_g_QUESTIONS : PySem.W.nsIn K mainGlobals "QUESTIONS" = some (some (.int 48 t_QUESTIONS)))
    (h_g_MOST_ENDS : PySem.W.nsIn K mainGlobals "MOST_ENDS" = some (some (.int 60 t_MOST_ENDS)))
    (h_z_abs : PySem.W.nsIn K mainGlobals "abs" = some none)
    (h_z_all : PySem.W.nsIn K mainGlobals "all" = some none)
    (h_z_enumerate : PySem.W.nsIn K mainGlobals "enumerate" = some none)
    (h_z_int : PySem.W.nsIn K mainGlobals "int" = some none)
    (h_z_len : PySem.W.nsIn K mainGlobals "len" = some none)
    (h_z_list : PySem.W.nsIn K mainGlobals "list" = some none)
    (h_z_min : PySem.W.nsIn K mainGlobals "min" = some none)
    (h_z_range : PySem.W.nsIn K mainGlobals "range" = some none)
    (h_z_reversed : PySem.W.nsIn K mainGlobals "reversed" = some none)
    (h_z_set : PySem.W.nsIn K mainGlobals "set" = some none)
    (h_z_sorted : PySem.W.nsIn K mainGlobals "sorted" = some none)
    (h_z_tuple : PySem.W.nsIn K mainGlobals "tuple" = some none) :
    ∃ fd : FuncData, (∀ (s : Shared) (v : Value), BindsTo s fd ⟨[v], []⟩ [("_law_script", v)]) ∧ ∀ base : Heap, K.In base → base.Ns mainGlobals mg → FnOk l.prog w K mg base CX0 6 fa fd ["_law_script"] (sp_law K) := by
  have e := hfa.symm.trans (PySem.W.mg_of X G h_a_law)
  cases e
  have FD_Web_init : FunD K "__init__" "Web.__init__" (defArgs s_Web_init) (defBody s_Web_init) (defScope s_Web_init) [] [("start", V.non)] f_Web_init (PySem.W.fnOf "__init__" "Web.__init__" (defArgs s_Web_init) (defBody s_Web_init) (defScope s_Web_init) .none (.ref kD_Web_init) dc_Web_init pm_Web_init an_Web_init cd_Web_init ct_Web_init) :=
    ⟨⟨_, _, _, _, _, _, _, _, _, _, rfl, h_l_Web_init, h_c_Web_init, .inl ⟨rfl, rfl⟩, .inr ⟨_, rfl, fun q hq => (by simp only [List.mem_cons, List.not_mem_nil, or_false] at hq; subst hq; exact ⟨_, h_kd_Web_init_start, rfl⟩)⟩⟩, h_k_Web_init⟩
  have KD_Web_init : ∃ ds, Vals [V.non] ds ∧ L2.Binds K _ P_Web_init ds := FD_Web_init.binds0 3 (by simp) rfl fun D doc pm an cdv ct us ks hu hk => match us, hu, ks, hk with | [_, _, _], _, [_], _ => ⟨_, _, _, _, _, _, rfl, rfl, rfl⟩
  have T : Txt K mg (Ad.mk c_TestError c_NoPosition c_Web f_is_question (PySem.W.fnOf "is_question" "is_question" (defArgs s_is_question) (defBody s_is_question) (defScope s_is_question) .none kV_is_question dc_is_question pm_is_question an_is_question cd_is_question ct_is_question) f_Web_contains (PySem.W.fnOf "__contains__" "Web.__contains__" (defArgs s_Web_contains) (defBody s_Web_contains) (defScope s_Web_contains) .none kV_Web_contains dc_Web_contains pm_Web_contains an_Web_contains cd_Web_contains ct_Web_contains) f_Web_len (PySem.W.fnOf "__len__" "Web.__len__" (defArgs s_Web_len) (defBody s_Web_len) (defScope s_Web_len) .none kV_Web_len dc_Web_len pm_Web_len an_Web_len cd_Web_len ct_Web_len) f_Web_first (PySem.W.fnOf "_first" "Web._first" (defArgs s_Web_first) (defBody s_Web_first) (defScope s_Web_first) .none kV_Web_first dc_Web_first pm_Web_first an_Web_first cd_Web_first ct_Web_first) f_Web_can_stand (PySem.W.fnOf "_can_stand" "Web._can_stand" (defArgs s_Web_can_stand) (defBody s_Web_can_stand) (defScope s_Web_can_stand) .none kV_Web_can_stand dc_Web_can_stand pm_Web_can_stand an_Web_can_stand cd_Web_can_stand ct_Web_can_stand) f_asked_twice (PySem.W.fnOf "_asked_twice" "_asked_twice" (defArgs s_asked_twice) (defBody s_asked_twice) (defScope s_asked_twice) .none kV_asked_twice dc_asked_twice pm_asked_twice an_asked_twice cd_asked_twice ct_asked_twice) f_Web_init (PySem.W.fnOf "__init__" "Web.__init__" (defArgs s_Web_init) (defBody s_Web_init) (defScope s_Web_init) .none (.ref kD_Web_init) dc_Web_init pm_Web_init an_Web_init cd_Web_init ct_Web_init) f_NoPosition_init (PySem.W.fnOf "__init__" "NoPosition.__init__" (defArgs s_NoPosition_init) (defBody s_NoPosition_init) (defScope s_NoPosition_init) .none kV_NoPosition_init dc_NoPosition_init pm_NoPosition_init an_NoPosition_init cd_NoPosition_init ct_NoPosition_init) f_Web_led_to (PySem.W.fnOf "_led_to" "Web._led_to" (defArgs s_Web_led_to) (defBody s_Web_led_to) (defScope s_Web_led_to) .none kV_Web_led_to dc_Web_led_to pm_Web_led_to an_Web_led_to cd_Web_led_to ct_Web_led_to) f_Web_asked (PySem.W.fnOf "asked" "Web.asked" (defArgs s_Web_asked) (defBody s_Web_asked) (defScope s_Web_asked) .none kV_Web_asked dc_Web_asked pm_Web_asked an_Web_asked cd_Web_asked ct_Web_asked) f_Web_reach (PySem.W.fnOf "reach" "Web.reach" (defArgs s_Web_reach) (defBody s_Web_reach) (defScope s_Web_reach) .none kV_Web_reach dc_Web_reach pm_Web_reach an_Web_reach cd_Web_reach ct_Web_reach) f_Web_reached (PySem.W.fnOf "reached" "Web.reached" (defArgs s_Web_reached) (defBody s_Web_reached) (defScope s_Web_reached) .none kV_Web_reached dc_Web_reached pm_Web_reached an_Web_reached cd_Web_reached ct_Web_reached) f_l_pool (PySem.W.fnOf "_law_pool" "_law_pool" (defArgs s_l_pool) (defBody s_l_pool) (defScope s_l_pool) .none kV_l_pool dc_l_pool pm_l_pool an_l_pool cd_l_pool ct_l_pool) f_l_draw (PySem.W.fnOf "_law_draw" "_law_draw" (defArgs s_l_draw) (defBody s_l_draw) (defScope s_l_draw) .none kV_l_draw dc_l_draw pm_l_draw an_l_draw cd_l_draw ct_l_draw) f_l_names (PySem.W.fnOf "_law_names" "_law_names" (defArgs s_l_names) (defBody s_l_names) (defScope s_l_names) .none kV_l_names dc_l_names pm_l_names an_l_names cd_l_names ct_l_names) f_l_target (PySem.W.fnOf "_law_target" "_law_target" (defArgs s_l_target) (defBody s_l_target) (defScope s_l_target) .none kV_l_target dc_l_target pm_l_target an_l_target cd_l_target ct_l_target) f_l_nodes (PySem.W.fnOf "_law_nodes" "_law_nodes" (defArgs s_l_nodes) (defBody s_l_nodes) (defScope s_l_nodes) .none kV_l_nodes dc_l_nodes pm_l_nodes an_l_nodes cd_l_nodes ct_l_nodes) f_l_led (PySem.W.fnOf "_law_led" "_law_led" (defArgs s_l_led) (defBody s_l_led) (defScope s_l_led) .none kV_l_led dc_l_led pm_l_led an_l_led cd_l_led ct_l_led) f_l_asked (PySem.W.fnOf "_law_asked" "_law_asked" (defArgs s_l_asked) (defBody s_l_asked) (defScope s_l_asked) .none kV_l_asked dc_l_asked pm_l_asked an_l_asked cd_l_asked ct_l_asked) f_l_reach (PySem.W.fnOf "_law_reach" "_law_reach" (defArgs s_l_reach) (defBody s_l_reach) (defScope s_l_reach) .none kV_l_reach dc_l_reach pm_l_reach an_l_reach cd_l_reach ct_l_reach) fa (PySem.W.fnOf "law" "law" (defArgs s_law) (defBody s_law) (defScope s_law) .none kV_law dc_law pm_law an_law cd_law ct_law) KD_Web_init.choose t_QUESTIONS t_MOST_ENDS) :=
    Txt.mk (PySem.W.mg_of X G h_g_TestError) (PySem.W.mg_of X G h_g_NoPosition) (PySem.W.mg_of X G h_g_Web) (⟨h_pg_Web, h_hd_Web, h_po_Web, h_sa_Web⟩) (⟨h_mkk_Web, h_a_Web_init, h_i_Web_init, h_kc_Web⟩) (h_nA_Web_nodes) (h_nA_Web_ends) (h_nA_Web_start) (⟨h_bga_TestError, h_ty_TestError, h_brd_TestError, h_bfi_TestError⟩) (⟨⟨_, _, _, _, _, _, _, _, _, _, _, _, _, _, _, h_xl_NoPosition, by rfl⟩, h_sa_NoPosition, h_eb_NoPosition, h_ty_NoPosition, h_kc_NoPosition⟩) (⟨h_ga_NoPosition, h_gg_NoPosition, h_eb_NoPosition, h_hd_NoPosition⟩) (h_nf_NoPosition_place) (PySem.W.exm_ref h_eb_NoPosition h_hd_NoPosition h_ty_NoPosition h_ss_NoPosition) (⟨h_ga_NoPosition, h_gg_NoPosition, h_eb_NoPosition, h_hd_NoPosition, h_ic1_NoPosition, h_eg2, h_eg3, h_ic4_NoPosition⟩) (h_a_NoPosition_init) (h_ti_NoPosition) (kit_sub h_sb_NoPosition h_icl_TestError h_ty_TestError) (fun_mk h_l_is_question h_c_is_question h_k_is_question) ((fun_mk (st := s_is_question) h_l_is_question h_c_is_question h_k_is_question).binds (ps := P_is_question) fun _ _ _ _ _ _ us hl => match us, hl with | [_], _ => rfl) (h_k_is_question) (PySem.W.mg_of X G h_a_is_question) (fun_mk h_l_Web_contains h_c_Web_contains h_k_Web_contains) ((fun_mk (st := s_Web_contains) h_l_Web_contains h_c_Web_contains h_k_Web_contains).binds (ps := P_Web_contains) fun _ _ _ _ _ _ us hl => match us, hl with | [_, _], _ => rfl) (h_k_Web_contains) (h_i_Web_contains) (h_a_Web_contains) (fun_mk h_l_Web_len h_c_Web_len h_k_Web_len) ((fun_mk (st := s_Web_len) h_l_Web_len h_c_Web_len h_k_Web_len).binds (ps := P_Web_len) fun _ _ _ _ _ _ us hl => match us, hl with | [_], _ => rfl) (h_k_Web_len) (h_i_Web_len) (h_a_Web_len) (fun_mk h_l_Web_first h_c_Web_first h_k_Web_first) ((fun_mk (st := s_Web_first) h_l_Web_first h_c_Web_first h_k_Web_first).binds (ps := P_Web_first) fun _ _ _ _ _ _ us hl => match us, hl with | [_], _ => rfl) (h_k_Web_first) (h_i_Web_first) (⟨h_a_Web_first, h_i_Web_first, h_k_Web_first⟩) (fun_mk h_l_Web_can_stand h_c_Web_can_stand h_k_Web_can_stand) ((fun_mk (st := s_Web_can_stand) h_l_Web_can_stand h_c_Web_can_stand h_k_Web_can_stand).binds (ps := P_Web_can_stand) fun _ _ _ _ _ _ us hl => match us, hl with | [_, _, _], _ => rfl) (h_k_Web_can_stand) (h_i_Web_can_stand) (⟨h_a_Web_can_stand, h_i_Web_can_stand, h_k_Web_can_stand⟩) (fun_mk h_l_asked_twice h_c_asked_twice h_k_asked_twice) ((fun_mk (st := s_asked_twice) h_l_asked_twice h_c_asked_twice h_k_asked_twice).binds (ps := P_asked_twice) fun _ _ _ _ _ _ us hl => match us, hl with | [_], _ => rfl) (h_k_asked_twice) (PySem.W.mg_of X G h_a_asked_twice) (fun_mk h_l_Web_init h_c_Web_init h_k_Web_init) (h_k_Web_init) (h_i_Web_init) (KD_Web_init.choose_spec.1) (KD_Web_init.choose_spec.2) (⟨fun s us ws _ hl hw => match us, hl, ws, hw with | [_, _, _], _, [_], _ => .of_eq rfl, fun r1 r2 => vals_app r1 r2⟩) (fun_mk h_l_NoPosition_init h_c_NoPosition_init h_k_NoPosition_init) ((fun_mk (st := s_NoPosition_init) h_l_NoPosition_init h_c_NoPosition_init h_k_NoPosition_init).binds (ps := P_NoPosition_init) fun _ _ _ _ _ _ us hl => match us, hl with | [_, _], _ => rfl) (h_k_NoPosition_init) (h_i_NoPosition_init) (fun_mk h_l_Web_led_to h_c_Web_led_to h_k_Web_led_to) ((fun_mk (st := s_Web_led_to) h_l_Web_led_to h_c_Web_led_to h_k_Web_led_to).binds (ps := P_Web_led_to) fun _ _ _ _ _ _ us hl => match us, hl with | [_, _], _ => rfl) (h_k_Web_led_to) (h_i_Web_led_to) (⟨h_a_Web_led_to, h_i_Web_led_to, h_k_Web_led_to⟩) (fun_mk h_l_Web_asked h_c_Web_asked h_k_Web_asked) ((fun_mk (st := s_Web_asked) h_l_Web_asked h_c_Web_asked h_k_Web_asked).binds (ps := P_Web_asked) fun _ _ _ _ _ _ us hl => match us, hl with | [_, _], _ => rfl) (h_k_Web_asked) (h_i_Web_asked) (⟨h_a_Web_asked, h_i_Web_asked, h_k_Web_asked⟩) (fun_mk h_l_Web_reach h_c_Web_reach h_k_Web_reach) ((fun_mk (st := s_Web_reach) h_l_Web_reach h_c_Web_reach h_k_Web_reach).binds (ps := P_Web_reach) fun _ _ _ _ _ _ us hl => match us, hl with | [_, _], _ => rfl) (h_k_Web_reach) (h_i_Web_reach) (⟨h_a_Web_reach, h_i_Web_reach, h_k_Web_reach⟩) (fun_mk h_l_Web_reached h_c_Web_reached h_k_Web_reached) ((fun_mk (st := s_Web_reached) h_l_Web_reached h_c_Web_reached h_k_Web_reached).binds (ps := P_Web_reached) fun _ _ _ _ _ _ us hl => match us, hl with | [_], _ => rfl) (h_k_Web_reached) (h_i_Web_reached) (⟨h_a_Web_reached, h_i_Web_reached, h_k_Web_reached⟩) (fun_mk h_l_l_pool h_c_l_pool h_k_l_pool) ((fun_mk (st := s_l_pool) h_l_l_pool h_c_l_pool h_k_l_pool).binds (ps := P_l_pool) fun _ _ _ _ _ _ us hl => match us, hl with | [_], _ => rfl) (h_k_l_pool) (PySem.W.mg_of X G h_a_l_pool) (fun_mk h_l_l_draw h_c_l_draw h_k_l_draw) ((fun_mk (st := s_l_draw) h_l_l_draw h_c_l_draw h_k_l_draw).binds (ps := P_l_draw) fun _ _ _ _ _ _ us hl => match us, hl with | [_, _], _ => rfl) (h_k_l_draw) (PySem.W.mg_of X G h_a_l_draw) (fun_mk h_l_l_names h_c_l_names h_k_l_names) ((fun_mk (st := s_l_names) h_l_l_names h_c_l_names h_k_l_names).binds (ps := P_l_names) fun _ _ _ _ _ _ us hl => match us, hl with | [_, _], _ => rfl) (h_k_l_names) (PySem.W.mg_of X G h_a_l_names) (fun_mk h_l_l_target h_c_l_target h_k_l_target) ((fun_mk (st := s_l_target) h_l_l_target h_c_l_target h_k_l_target).binds (ps := P_l_target) fun _ _ _ _ _ _ us hl => match us, hl with | [_, _, _, _], _ => rfl) (h_k_l_target) (PySem.W.mg_of X G h_a_l_target) (fun_mk h_l_l_nodes h_c_l_nodes h_k_l_nodes) ((fun_mk (st := s_l_nodes) h_l_l_nodes h_c_l_nodes h_k_l_nodes).binds (ps := P_l_nodes) fun _ _ _ _ _ _ us hl => match us, hl with | [_, _, _, _, _], _ => rfl) (h_k_l_nodes) (PySem.W.mg_of X G h_a_l_nodes) (fun_mk h_l_l_led h_c_l_led h_k_l_led) ((fun_mk (st := s_l_led) h_l_l_led h_c_l_led h_k_l_led).binds (ps := P_l_led) fun _ _ _ _ _ _ us hl => match us, hl with | [_, _], _ => rfl) (h_k_l_led) (PySem.W.mg_of X G h_a_l_led) (fun_mk h_l_l_asked h_c_l_asked h_k_l_asked) ((fun_mk (st := s_l_asked) h_l_l_asked h_c_l_asked h_k_l_asked).binds (ps := P_l_asked) fun _ _ _ _ _ _ us hl => match us, hl with | [_, _], _ => rfl) (h_k_l_asked) (PySem.W.mg_of X G h_a_l_asked) (fun_mk h_l_l_reach h_c_l_reach h_k_l_reach) ((fun_mk (st := s_l_reach) h_l_l_reach h_c_l_reach h_k_l_reach).binds (ps := P_l_reach) fun _ _ _ _ _ _ us hl => match us, hl with | [_, _], _ => rfl) (h_k_l_reach) (PySem.W.mg_of X G h_a_l_reach) (fun_mk h_l_law h_c_law h_k_law) ((fun_mk (st := s_law) h_l_law h_c_law h_k_law).binds (ps := P_law) fun _ _ _ _ _ _ us hl => match us, hl with | [_], _ => rfl) (h_k_law) (PySem.W.mg_of X G h_a_law) (PySem.W.mg_of X G h_g_QUESTIONS) (PySem.W.mg_of X G h_g_MOST_ENDS) (PySem.W.mg_none_of X G h_z_abs) (PySem.W.mg_none_of X G h_z_all) (PySem.W.mg_none_of X G h_z_enumerate) (PySem.W.mg_none_of X G h_z_int) (PySem.W.mg_none_of X G h_z_len) (PySem.W.mg_none_of X G h_z_list) (PySem.W.mg_none_of X G h_z_min) (PySem.W.mg_none_of X G h_z_range) (PySem.W.mg_none_of X G h_z_reversed) (PySem.W.mg_none_of X G h_z_set) (PySem.W.mg_none_of X G h_z_sorted) (PySem.W.mg_none_of X G h_z_tuple)
  exact ⟨_, fun s v => .of_eq rfl, fun base _ _ => ok_law T⟩
theorem walk {l : PySem.W.OpenLaw} {q : Program} {loose : List Str} {XP : (Str → Option Value) → Heap → Prop} {YP : World → Heap → Prop} {d : DefRec} {K : Params → PySem.W.Frag} (hn : l.most = some 63) (hdf : d.params.defaults = [])
    (hY : ∀ (w : World) (h : Heap), YP w h → (K w.params).In h)
    (F : ∀ (w : World) (mg : Str → Option Value) (fa : Addr) (h : Heap), (K w.params).In h → h.Ns mainGlobals mg → mg d.name = some (.ref fa) →
      ∃ fd : FuncData, (∀ (s : Shared) (u : Value), BindsTo s fd ⟨[u], []⟩ [("_law_script", u)]) ∧ ∀ base : Heap, (K w.params).In base → base.Ns mainGlobals mg → FnOk l.prog w (K w.params) mg base CX0 6 fa fd ["_law_script"] (sp_law (K w.params))) :
    PySem.W.WalkO q loose XP YP l.row.toRowW d [] (fun f vs => PySem.call f vs) :=
  L2.walk_of (n := 63) (k := 6) (x := "_law_script") (CX := fun _ => CX0) (sp := fun w => sp_law (K w.params)) hn (by decide) hdf ⟨rfl, by decide, by decide⟩ hY F (fun _ _ a ns hl hO hS => ⟨a, ns, rfl, scr_of hO hS, hl, fun _ => rfl⟩) fun _ _ _ _ _ z => z
end K03

open PySem PySem.W PyProof.Rows in
set_option maxRecDepth 100000 in
set_option maxHeartbeats 0 in
theorem PySem.Challenge.cw_steppedtests_k03_asked_reach_reached_holds : PySem.Challenge.rw_steppedtests_k03_asked_reach_reached.Holds := by
  w_on; o_law; k_head; (case hw => w_witness2)
  k_fill
  refine K03.walk (l := PySem.Challenge.rw_steppedtests_k03_asked_reach_reached) rfl rfl (fun w h Y => PySem.W.kIn_of Y) ?F
  case F =>
    intro w mg fa h KX G hmg
    refine' K03.all_mk KX G hmg ?h_g_TestError ?h_g_NoPosition ?h_g_Web ?h_pg_Web ?h_hd_Web ?h_po_Web ?h_sa_Web ?h_mkk_Web ?h_kc_Web ?h_nA_Web_nodes ?h_nA_Web_ends ?h_nA_Web_start ?h_bga_TestError ?h_ty_TestError ?h_brd_TestError ?h_bfi_TestError ?h_xl_NoPosition ?h_sa_NoPosition ?h_eb_NoPosition ?h_ty_NoPosition ?h_kc_NoPosition ?h_ga_NoPosition ?h_gg_NoPosition ?h_hd_NoPosition ?h_ss_NoPosition ?h_ic1_NoPosition ?h_eg2 ?h_eg3 ?h_ic4_NoPosition ?h_nf_NoPosition_place ?h_sb_NoPosition ?h_icl_TestError ?h_a_is_question ?h_l_is_question ?h_c_is_question ?h_k_is_question ?h_a_Web_contains ?h_i_Web_contains ?h_l_Web_contains ?h_c_Web_contains ?h_k_Web_contains ?h_a_Web_len ?h_i_Web_len ?h_l_Web_len ?h_c_Web_len ?h_k_Web_len ?h_a_Web_first ?h_i_Web_first ?h_l_Web_first ?h_c_Web_first ?h_k_Web_first ?h_a_Web_can_stand ?h_i_Web_can_stand ?h_l_Web_can_stand ?h_c_Web_can_stand ?h_k_Web_can_stand ?h_a_asked_twice ?h_l_asked_twice ?h_c_asked_twice ?h_k_asked_twice ?h_a_Web_init ?h_i_Web_init ?h_l_Web_init ?h_c_Web_init ?h_k_Web_init ?h_kd_Web_init_start ?h_a_NoPosition_init ?h_i_NoPosition_init ?h_l_NoPosition_init ?h_c_NoPosition_init ?h_k_NoPosition_init ?h_a_Web_led_to ?h_i_Web_led_to ?h_l_Web_led_to ?h_c_Web_led_to ?h_k_Web_led_to ?h_a_Web_asked ?h_i_Web_asked ?h_l_Web_asked ?h_c_Web_asked ?h_k_Web_asked ?h_a_Web_reach ?h_i_Web_reach ?h_l_Web_reach ?h_c_Web_reach ?h_k_Web_reach ?h_a_Web_reached ?h_i_Web_reached ?h_l_Web_reached ?h_c_Web_reached ?h_k_Web_reached ?h_a_l_pool ?h_l_l_pool ?h_c_l_pool ?h_k_l_pool ?h_a_l_draw ?h_l_l_draw ?h_c_l_draw ?h_k_l_draw ?h_a_l_names ?h_l_l_names ?h_c_l_names ?h_k_l_names ?h_a_l_target ?h_l_l_target ?h_c_l_target ?h_k_l_target ?h_a_l_nodes ?h_l_l_nodes ?h_c_l_nodes ?h_k_l_nodes ?h_a_l_led ?h_l_l_led ?h_c_l_led ?h_k_l_led ?h_a_l_asked ?h_l_l_asked ?h_c_l_asked ?h_k_l_asked ?h_a_l_reach ?h_l_l_reach ?h_c_l_reach ?h_k_l_reach ?h_a_law ?h_l_law ?h_c_law ?h_k_law ?h_ti_NoPosition ?h_g_QUESTIONS ?h_g_MOST_ENDS ?h_z_abs ?h_z_all ?h_z_enumerate ?h_z_int ?h_z_len ?h_z_list ?h_z_min ?h_z_range ?h_z_reversed ?h_z_set ?h_z_sorted ?h_z_tuple
    (case h_g_TestError => k_is)
    (case h_g_NoPosition => k_is)
    (case h_g_Web => k_is)
    (case h_pg_Web => k_is)
    (case h_hd_Web => k_is)
    (case h_po_Web => k_is)
    (case h_sa_Web => k_is)
    (case h_mkk_Web => k_is)
    (case h_kc_Web => k_is)
    (case h_nA_Web_nodes => k_is)
    (case h_nA_Web_ends => k_is)
    (case h_nA_Web_start => k_is)
    (case h_bga_TestError => k_is)
    (case h_ty_TestError => k_is)
    (case h_brd_TestError => k_is)
    (case h_bfi_TestError => k_is)
    (case h_xl_NoPosition => k_is)
    (case h_sa_NoPosition => k_is)
    (case h_eb_NoPosition => k_is)
    (case h_ty_NoPosition => k_is)
    (case h_kc_NoPosition => k_is)
    (case h_ga_NoPosition => k_is)
    (case h_gg_NoPosition => k_is)
    (case h_hd_NoPosition => k_is)
    (case h_ss_NoPosition => first | rfl | k_is)
    (case h_ic1_NoPosition => k_is)
    (case h_eg2 => k_is)
    (case h_eg3 => k_is)
    (case h_ic4_NoPosition => k_is)
    (case h_nf_NoPosition_place => k_is)
    (case h_sb_NoPosition => k_is)
    (case h_icl_TestError => k_is)
    (case h_a_is_question => k_is)
    (case h_l_is_question => k_is)
    (case h_c_is_question => k_is)
    (case h_k_is_question => k_is)
    (case h_a_Web_contains => k_is)
    (case h_i_Web_contains => k_is)
    (case h_l_Web_contains => k_is)
    (case h_c_Web_contains => k_is)
    (case h_k_Web_contains => k_is)
    (case h_a_Web_len => k_is)
    (case h_i_Web_len => k_is)
    (case h_l_Web_len => k_is)
    (case h_c_Web_len => k_is)
    (case h_k_Web_len => k_is)
    (case h_a_Web_first => k_is)
    (case h_i_Web_first => k_is)
    (case h_l_Web_first => k_is)
    (case h_c_Web_first => k_is)
    (case h_k_Web_first => k_is)
    (case h_a_Web_can_stand => k_is)
    (case h_i_Web_can_stand => k_is)
    (case h_l_Web_can_stand => k_is)
    (case h_c_Web_can_stand => k_is)
    (case h_k_Web_can_stand => k_is)
    (case h_a_asked_twice => k_is)
    (case h_l_asked_twice => k_is)
    (case h_c_asked_twice => k_is)
    (case h_k_asked_twice => k_is)
    (case h_a_Web_init => k_is)
    (case h_i_Web_init => k_is)
    (case h_l_Web_init => k_is)
    (case h_c_Web_init => k_is)
    (case h_k_Web_init => k_is)
    (case h_kd_Web_init_start => k_is)
    (case h_a_NoPosition_init => k_is)
    (case h_i_NoPosition_init => k_is)
    (case h_l_NoPosition_init => k_is)
    (case h_c_NoPosition_init => k_is)
    (case h_k_NoPosition_init => k_is)
    (case h_a_Web_led_to => k_is)
    (case h_i_Web_led_to => k_is)
    (case h_l_Web_led_to => k_is)
    (case h_c_Web_led_to => k_is)
    (case h_k_Web_led_to => k_is)
    (case h_a_Web_asked => k_is)
    (case h_i_Web_asked => k_is)
    (case h_l_Web_asked => k_is)
    (case h_c_Web_asked => k_is)
    (case h_k_Web_asked => k_is)
    (case h_a_Web_reach => k_is)
    (case h_i_Web_reach => k_is)
    (case h_l_Web_reach => k_is)
    (case h_c_Web_reach => k_is)
    (case h_k_Web_reach => k_is)
    (case h_a_Web_reached => k_is)
    (case h_i_Web_reached => k_is)
    (case h_l_Web_reached => k_is)
    (case h_c_Web_reached => k_is)
    (case h_k_Web_reached => k_is)
    (case h_a_l_pool => k_is)
    (case h_l_l_pool => k_is)
    (case h_c_l_pool => k_is)
    (case h_k_l_pool => k_is)
    (case h_a_l_draw => k_is)
    (case h_l_l_draw => k_is)
    (case h_c_l_draw => k_is)
    (case h_k_l_draw => k_is)
    (case h_a_l_names => k_is)
    (case h_l_l_names => k_is)
    (case h_c_l_names => k_is)
    (case h_k_l_names => k_is)
    (case h_a_l_target => k_is)
    (case h_l_l_target => k_is)
    (case h_c_l_target => k_is)
    (case h_k_l_target => k_is)
    (case h_a_l_nodes => k_is)
    (case h_l_l_nodes => k_is)
    (case h_c_l_nodes => k_is)
    (case h_k_l_nodes => k_is)
    (case h_a_l_led => k_is)
    (case h_l_l_led => k_is)
    (case h_c_l_led => k_is)
    (case h_k_l_led => k_is)
    (case h_a_l_asked => k_is)
    (case h_l_l_asked => k_is)
    (case h_c_l_asked => k_is)
    (case h_k_l_asked => k_is)
    (case h_a_l_reach => k_is)
    (case h_l_l_reach => k_is)
    (case h_c_l_reach => k_is)
    (case h_k_l_reach => k_is)
    (case h_a_law => k_is)
    (case h_l_law => k_is)
    (case h_c_law => k_is)
    (case h_k_law => k_is)
    (case h_ti_NoPosition => k_is)
    (case h_g_QUESTIONS => k_is)
    (case h_g_MOST_ENDS => k_is)
    (case h_z_abs => k_is)
    (case h_z_all => k_is)
    (case h_z_enumerate => k_is)
    (case h_z_int => k_is)
    (case h_z_len => k_is)
    (case h_z_list => k_is)
    (case h_z_min => k_is)
    (case h_z_range => k_is)
    (case h_z_reversed => k_is)
    (case h_z_set => k_is)
    (case h_z_sorted => k_is)
    (case h_z_tuple => k_is)
