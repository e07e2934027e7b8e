import PyProof.Rows.All
import Wide.All
import OpenK.AllK
import Wide.FinOn
import HandS.ForMost
import HandS.ForExc
import HandS.OwnEq
import HandS.Wide
import HandS.SetFor
import HandS.Strs
import HandS.IsInst
import HandS.TupAny
import HandS.Style
import HandS.Codes
import HandS.Flow
import HandS.Evl
import HandS.Conv
import KE.KEqDeep
import HandS.ExcInit
import HandS.ExcField
import HandS.ExcIs
import HandS.FStr
import HandS.TryMany
import HandS.Defaults
import HandS.Iter
import HandS.Zip
import HandS.Text
import HandS.RevRange
import HandS.Deep
import HandS.Dict
import HandS.WordsDict
import HandS.Sort
import HandS.Comp
import PySem.Challenge.RW_steppedtests_k27_splits_and_harmless_pai
set_option Elab.async false
set_option linter.all false
set_option maxRecDepth 100000
set_option exponentiation.threshold 500
set_option maxHeartbeats 4000000
namespace L2
open PySem PySem.Spec PyProof.Rows
/-! ## own special methods of a class: | & - by __or__ .., <= == by __le__ .., in by __contains__, len by __len__ -/
section
variable {X : Cx} {n : Nat} {CX : CXT} {C f : Addr} {fd : FuncData} {ps : List Str} {sp : Sp} {E : XK} {pins : List (Addr × Obj)} {σ : St} {H : Hp} {s : Shared}
theorem run_own {A : Around} {vs : List V} {us : List Value} {Q : VK} (F : FnOk X.prog X.w X.K X.mg X.base CX n f fd ps sp) (sb : Sub X n A) (hb : Binds X.K fd ps []) (hx : Passes CX X E)
    (I : Inv X pins σ H s) (r : Vals vs us) (h : sp vs H Q E) : wpAny (model X.prog X.w) A (call (.ref f) us) (EP X pins σ Q) X.xe s := by
  have e0 : Env0 X.prog X.w X.K X.mg X.base A X.stack s H := by
    have e := I.env0
    exact ⟨by rw [sb.fr]; exact e.frames, e.mod, e.bs, e.bsz, e.funs, e.frf, e.hok, e.bare⟩
  have hl := F.len _ _ _ _ h
  have hl2 : us.length = ps.length := by rw [← hl, r.length]
  refine wpAny_call (codeAny_mono (F.run A X.stack s H ⟨us, []⟩ us vs Q E sb.room e0 (by
    have := hb s us I.kIn (by simpa using hl2)
    simpa using this) r h) fun r' s' hq => ?_)
  cases r' with
  | error e => exact hx pins σ H s e s' I hq
  | ok fl =>
    cases fl with
    | ret w => exact I.after hq
    | next => exact False.elim hq
    | brk => exact False.elim hq
    | cont => exact False.elim hq
/-- a value of the layer is never NotImplemented -/
theorem back_ep {u : Value} {s' : Shared} {Q : VK} (h : EP X pins σ Q u s') : PySem.W.CmpBack (EP X pins σ Q) u s' := by
  obtain ⟨v, H', I', r, q⟩ := id h
  cases v with
  | non => cases r; exact h
  | bl b => cases r; exact h
  | int i => obtain ⟨t, rfl⟩ := r; exact h
  | str x => obtain ⟨t, rfl⟩ := r; exact h
  | byt x => obtain ⟨t, rfl⟩ := r; exact h
  | flt x => obtain ⟨t, rfl⟩ := r; exact h
  | ref a => cases r; exact h
  | ty m => cases r; exact h
def rOwn (C : Addr) (sp : Sp) (E : XK) : R2 := fun x y H Q => ∃ a b dx dy fs gs, x = .ref a ∧ y = .ref b ∧ H a = some (.ins C dx fs) ∧ H b = some (.ins C dy gs) ∧ sp [.ref a, .ref b] H Q E
theorem op_own {op : Operator} (F : FnOk X.prog X.w X.K X.mg X.base CX n f fd ps sp) (hr : Room n X.A) (hs : PySem.W.findIn X.K (.ref C) (PySem.dunder op.info.2) = some (some (.ref f))) (hf : PySem.W.isFn X.K (.ref f) = true)
    (hc : PySem.W.selfFirst X.K C = true) (hb : Binds X.K fd ps []) (hx : Passes CX X E) : OpR X (binaryOp op) (rOwn C sp E) := by
  intro pins s σ H x y v u Q I rx ry h
  obtain ⟨a, b, dx, dy, fs, gs, rfl, rfl, ha, hb', h⟩ := h
  cases rx
  cases ry
  obtain ⟨mA, J, _⟩ := ins_get I.hok ha
  obtain ⟨mB, J', _⟩ := ins_get I.hok hb'
  obtain ⟨od, J, _⟩ := J.look
  obtain ⟨od', J', _⟩ := J'.look
  obtain ⟨m, hF⟩ := I.fr
  refine PySem.W.binop_K hF I.ok.mod.kin J J'.type hc hs hf ?_
  exact thn (run_own (vs := [.ref a, .ref b]) F ⟨hr, rfl⟩ hb hx I (.cons rfl (.cons rfl .nil)) h) fun u s' q => back_ep q
theorem cmp_own {op : CmpOp} (F : FnOk X.prog X.w X.K X.mg X.base CX n f fd ps sp) (hr : Room n X.A) (hs : PySem.W.findIn X.K (.ref C) (PySem.cmpInfo op).2.1 = some (some (.ref f))) (hf : PySem.W.isFn X.K (.ref f) = true)
    (hb : Binds X.K fd ps []) (hx : Passes CX X E) : OpR X (richCompare op) (rOwn C sp E) := by
  intro pins s σ H x y v u Q I rx ry h
  obtain ⟨a, b, dx, dy, fs, gs, rfl, rfl, ha, hb', h⟩ := h
  cases rx
  cases ry
  obtain ⟨mA, J, _⟩ := ins_get I.hok ha
  obtain ⟨mB, J', _⟩ := ins_get I.hok hb'
  obtain ⟨od, J, _⟩ := J.look
  obtain ⟨od', J', _⟩ := J'.look
  obtain ⟨m, hF⟩ := I.fr
  refine PySem.W.cmp_K hr.units0 hF I.ok.mod.kin J J'.type (by simp [PySem.W.notFirst]) hs hf ?_
  exact thn (run_own (vs := [.ref a, .ref b]) F ⟨hr, rfl⟩ hb hx I (.cons rfl (.cons rfl .nil)) h) fun u s' q => back_ep q
def rOwnIn (C : Addr) (sp : Sp) (E : XK) (neg : Bool) : R2 := fun x y H Q => ∃ b dy gs, y = .ref b ∧ H b = some (.ins C dy gs) ∧ sp [.ref b, x] H (fun v H' => ∃ k, v = .bl k ∧ Q (.bl (if neg then !k else k)) H') E
theorem in_own (F : FnOk X.prog X.w X.K X.mg X.base CX n f fd ps sp) (hr : Room n X.A) (hs : PySem.W.findIn X.K (.ref C) "__contains__" = some (some (.ref f))) (hf : PySem.W.isFn X.K (.ref f) = true)
    (hb : Binds X.K fd ps []) (hx : Passes CX X E) : OpR X (compareOp .In) (rOwnIn C sp E false) := by
  intro pins s σ H x y v u Q I rx ry h
  obtain ⟨b, dy, gs, rfl, hb', h⟩ := h
  cases ry
  obtain ⟨mB, J', _⟩ := ins_get I.hok hb'
  obtain ⟨od', J', _⟩ := J'.look
  obtain ⟨m, hF⟩ := I.fr
  refine PySem.W.in_K hF I.ok.mod.kin J' hs hf ?_
  refine thn (run_own (vs := [.ref b, x]) F ⟨hr, rfl⟩ hb hx I (.cons rfl (.cons rx .nil)) h) fun u s' q => ?_
  obtain ⟨z, H', I', rz, k, rfl, q⟩ := q
  cases rz
  exact wpAny_truthy_bool ⟨.bl k, H', I', rfl, q⟩
theorem notIn_own (F : FnOk X.prog X.w X.K X.mg X.base CX n f fd ps sp) (hr : Room n X.A) (hs : PySem.W.findIn X.K (.ref C) "__contains__" = some (some (.ref f))) (hf : PySem.W.isFn X.K (.ref f) = true)
    (hb : Binds X.K fd ps []) (hx : Passes CX X E) : OpR X (compareOp .NotIn) (rOwnIn C sp E true) := by
  intro pins s σ H x y v u Q I rx ry h
  obtain ⟨b, dy, gs, rfl, hb', h⟩ := h
  cases ry
  obtain ⟨mB, J', _⟩ := ins_get I.hok hb'
  obtain ⟨od', J', _⟩ := J'.look
  obtain ⟨m, hF⟩ := I.fr
  refine PySem.W.notIn_K hF I.ok.mod.kin J' hs hf ?_
  refine thn (run_own (vs := [.ref b, x]) F ⟨hr, rfl⟩ hb hx I (.cons rfl (.cons rx .nil)) h) fun u s' q => ?_
  obtain ⟨z, H', I', rz, k, rfl, q⟩ := q
  cases rz
  exact wpAny_truthy_bool ⟨.bl (!k), H', I', rfl, q⟩
def rOwnLen (C : Addr) (sp : Sp) (E : XK) : List V → Hp → VK → Prop := fun xs H Q => ∃ b dy gs, xs = [.ref b] ∧ H b = some (.ins C dy gs) ∧ sp [.ref b] H (fun v H' => ∃ k : Int, v = .int k ∧ 0 ≤ k ∧ k < 2 ^ 63 ∧ Q (.int k) H') E
theorem len_own (F : FnOk X.prog X.w X.K X.mg X.base CX n f fd ps sp) (hr : Room (n + 1) X.A) (hs : PySem.W.findIn X.K (.ref C) "__len__" = some (some (.ref f))) (hf : PySem.W.isFn X.K (.ref f) = true)
    (hb : Binds X.K fd ps []) (hx : Passes CX X E) : CallR X (.builtin "len") (rOwnLen C sp E) := by
  intro pins s σ H xs us Q I r h
  obtain ⟨b, dy, gs, rfl, hb', h⟩ := h
  rw [Vals.ref1 r]
  obtain ⟨mB, J', _⟩ := ins_get I.hok hb'
  obtain ⟨od', J', _⟩ := J'.look
  obtain ⟨m, hF⟩ := I.fr
  refine PySem.W.len_K hF I.ok.mod.kin J' hs hf ?_
  have sb : Sub X (n + 1) X.A := ⟨hr, rfl⟩
  refine thn (run_own (vs := [.ref b]) F sb.in1 hb hx I (.cons rfl .nil) h) fun u s' q => ?_
  obtain ⟨z, H', I', rz, k, rfl, h0, h1, q⟩ := q
  obtain ⟨t, rfl⟩ := rz
  exact ⟨⟨h0, h1⟩, .int k, H', I'.tok _, ⟨_, rfl⟩, q⟩
/-- web[i] by an own __getitem__ -/
def rOwnIx (C : Addr) (sp : Sp) (E : XK) : R2 := fun x y H Q => ∃ a dx fs, x = .ref a ∧ H a = some (.ins C dx fs) ∧ sp [.ref a, y] H Q E
theorem pe_ownIx {a b : Expr} {ta tb : TE} {pos : Pos} (F : FnOk X.prog X.w X.K X.mg X.base CX n f fd ps sp) (hr : Room (n + 1) X.A) (hs : PySem.W.findIn X.K (.ref C) "__getitem__" = some (some (.ref f))) (hfn : PySem.W.fnIn X.K f = true) (hf : PySem.W.isFn X.K (.ref f) = true)
    (hb : Binds X.K fd ps []) (hx : Passes CX X E) (ha : PE X a ta) (hb' : PE X b tb)
    (hsl : ∀ x i, subscripted b true (.ref x) i = runValue (.builtin "lifetime.subscript" ⟨[.ref x, i], []⟩) := by intro _ _; with_unfolding_all rfl) : PE X (.Subscript a b pos) (tOp (rOwnIx C sp E) ta tb) := by
  refine ⟨fun pins s σ H Q I h => ?_⟩
  refine Subscript_ (binT ha hb' I h fun v u s2 x y H2 I2 rx ry q => ?_)
  obtain ⟨c, dx, fs, rfl, hc, q⟩ := q
  cases rx
  obtain ⟨mB, J', _⟩ := ins_get I2.hok hc
  obtain ⟨od', J', _⟩ := J'.look
  obtain ⟨m, hF⟩ := I2.fr
  have sb : Sub X (n + 1) X.A := ⟨hr, rfl⟩
  exact PySem.W.sub_K hF I2.ok.mod.kin J' hs hfn hf (run_own (vs := [.ref c, y]) F sb.in1 hb hx I2 (.cons rfl (.cons ry .nil)) q) (hsl _ _)
/-- set(t), t a tuple of ints -/
def rSetOf (K : PySem.W.Frag) (w : World) : List V → Hp → VK → Prop := fun xs H Q => ∃ (l : Addr) (ns : List Int), xs = [V.ref l] ∧ SqT K H l (ns.map V.int) ∧ ns.length ≤ 1000 ∧
  ∀ p c, H p = none → c ≤ ns.length → (∀ L : List Int, (∀ k ∈ ns, k ∈ L) → c ≤ L.length) → Q (.ref p) (upd H p (SetO w p (fun j => decide (j ∈ ns)) c))
theorem nodup_le : ∀ (l D : List Int), l.Nodup → (∀ x ∈ l, x ∈ D) → l.length ≤ D.length
  | [], _, _, _ => Nat.zero_le _
  | x :: r, D, hn, h => by
    have hx : x ∈ D := h x List.mem_cons_self
    obtain ⟨h1, h2⟩ := List.nodup_cons.mp hn
    have ih := nodup_le r (D.erase x) h2 fun y hy => by
      have hne : y ≠ x := fun e => h1 (e ▸ hy)
      exact (List.mem_erase_of_ne hne).mpr (h y (List.mem_cons_of_mem _ hy))
    rw [List.length_erase_of_mem hx] at ih
    have : 0 < D.length := List.length_pos_of_mem hx
    rw [List.length_cons]
    omega
theorem cr_setOf (hc : X.calm = true) : CallR X (.type "set") (rSetOf X.K X.w) := by
  intro pins s σ H xs us Q I r h
  obtain ⟨l, ns, rfl, hq, hl, q⟩ := h
  rw [Vals.ref1 r]
  obtain ⟨its, rv, pt, hz⟩ := I.tuple hq
  have hi : IntsAre its.toArray.toList ns := by simpa using ints_of_vals rv
  refine call_set_tupI ns (I.ok.hd hc) (show s.heap.IsTuple l its.toArray from pt) hi (by unfold scanBound; omega) fun h' tk c R hcn k => ?_
  have hn : H s.heap.objs.size = none := I.hok.fresh (Nat.le_refl _)
  refine ⟨.ref s.heap.objs.size, upd H s.heap.objs.size (SetO X.w s.heap.objs.size (fun j => decide (j ∈ ns)) c), I.laid (t' := tk) k (Nat.le_refl _) (setO_new R), rfl, q _ c hn hcn fun L hL => ?_⟩
  obtain ⟨o, es, ep, t, ho, hex, hdt, g, nd, hm2, hb, hf, hn2, hr, hl2⟩ := R
  have z := nodup_le _ L nd fun x hx => hL x (of_decide_eq_true ((hm2 x).mpr hx))
  rw [List.length_map, Array.length_toList, hn2] at z
  exact z
end
end L2

namespace L2
open PySem PySem.Spec PyProof.Rows
/-! ## heaps that keep all but the pool -/
def isPool (o : HO) : Prop := ∃ (a : Addr) (c i b s : Int), o = .lst [.ref a, .int c, .int i, .int b, .int s]
def Gd (H H' : Hp) : Prop := (∀ b o, ¬ isPool o → H b = some o → H' b = some o) ∧ ∀ b o, isPool o → H b = some o → ∃ o', isPool o' ∧ H' b = some o'
theorem Gd.refl (H : Hp) : Gd H H := ⟨fun _ _ _ h => h, fun _ o n h => ⟨o, n, h⟩⟩
theorem Gd.trans {H H1 H2 : Hp} (a : Gd H H1) (b : Gd H1 H2) : Gd H H2 := ⟨fun x o n h => b.1 x o n (a.1 x o n h), fun x o n h => let ⟨o', n', h'⟩ := a.2 x o n h; b.2 x o' n' h'⟩
theorem Same.gd {H H' : Hp} (h : Same H H') : Gd H H' := ⟨fun b o _ e => h b o e, fun b o n e => ⟨o, n, h b o e⟩⟩
theorem fresh_gd {H H' : Hp} {p : Addr} (e : Gd H H') (h : H' p = none) : H p = none := by
  cases q : H p with
  | none => rfl
  | some o =>
    exfalso
    by_cases n : isPool o
    · obtain ⟨o', _, h'⟩ := e.2 p o n q
      rw [h] at h'
      cases h'
    · have := e.1 p o n q
      rw [h] at this
      cases this
theorem np_ints (ns : List Int) : ¬ isPool (.lst (ns.map V.int)) := by
  rintro ⟨a, c, i, b, s, h⟩
  cases ns with
  | nil => cases h
  | cons x r => injection h with h; injection h with h _; cases h
theorem np_frz (o : Obj) (u : HO) : ¬ isPool (.frz o u) := by rintro ⟨a, c, i, b, s, h⟩; cases h
theorem np_tup (xs : List V) : ¬ isPool (.tup xs) := by rintro ⟨a, c, i, b, s, h⟩; cases h
theorem np_ins (C dx : Addr) (fs : List (Str × V)) : ¬ isPool (.ins C dx fs) := by rintro ⟨a, c, i, b, s, h⟩; cases h
theorem Gd.seq {K : PySem.W.Frag} {H H' : Hp} {a : Addr} {ns : List Int} (e : Gd H H') (h : SqL K H a (ns.map V.int)) : SqL K H' a (ns.map V.int) := by
  rcases h with (h | ⟨o, h⟩) | h
  · exact .inl (.inl (e.1 _ _ (np_ints ns) h))
  · exact .inl (.inr ⟨o, e.1 _ _ (np_frz _ _) h⟩)
  · exact .inr h
theorem Same.seqT {K : PySem.W.Frag} {H H' : Hp} {a : Addr} {xs : List V} (e : Same H H') (h : SqT K H a xs) : SqT K H' a xs := by
  rcases h with (h | ⟨o, h⟩) | h
  · exact .inl (.inl (e _ _ h))
  · exact .inl (.inr ⟨o, e _ _ h⟩)
  · exact .inr h
theorem same_upd {H : Hp} {p : Addr} {o : HO} (h : H p = none) : Same H (upd H p o) := fun b x e => by
  rw [upd_ne (ne_of_none e h)]
  exact e
/-- a heap made from H' by changing p, which H did not know -/
theorem Same.mut {H H' : Hp} {p : Addr} {o : HO} (e : Same H H') (h : H p = none) : Same H (upd H' p o) := fun a u ha => by
  rw [upd_ne (ne_of_none ha h)]
  exact e a u ha
theorem Gd.mut {H H' : Hp} {p : Addr} {o : HO} (e : Gd H H') (h : H p = none) : Gd H (upd H' p o) := ⟨fun a u n ha => by
  rw [upd_ne (ne_of_none ha h)]
  exact e.1 a u n ha, fun a u n ha => by
  rw [upd_ne (ne_of_none ha h)]
  exact e.2 a u n ha⟩
theorem Gd.upd {H H' : Hp} {p : Addr} {o : HO} (e : Gd H H') (h : H' p = none) : Gd H (upd H' p o) := e.mut (fresh_gd e h)
/-- the script: known to the object, or of the written part -/
def ScrAt (K : PySem.W.Frag) (H : Hp) (a : Addr) (xs : List V) : Prop :=
  (∃ o, H a = some (.frz o (.lst xs))) ∨ ∃ (o : Obj) (its : Array Value) (n : Nat), K.lookup a = some o ∧ o.cls = .type "list" ∧ o.dict = none ∧ o.data = .seq its n ∧ its.size ≤ sizeLine ∧ Vals xs its.toList
theorem ScrAt.seq {K : PySem.W.Frag} {H : Hp} {a : Addr} {xs : List V} (h : ScrAt K H a xs) : SqL K H a xs := h.elim (fun ⟨o, h⟩ => .inl (.inr ⟨o, h⟩)) fun h => .inr h
theorem ScrAt.gd {K : PySem.W.Frag} {H H' : Hp} {a : Addr} {xs : List V} (e : Gd H H') (h : ScrAt K H a xs) : ScrAt K H' a xs := h.elim (fun ⟨o, h⟩ => .inl ⟨o, e.1 _ _ (np_frz _ _) h⟩) fun h => .inr h
theorem ScrAt.mut {K : PySem.W.Frag} {H : Hp} {a D : Addr} {xs ys : List V} {o : HO} (hD : H D = some (.lst ys)) (h : ScrAt K H a xs) : ScrAt K (upd H D o) a xs :=
  h.elim (fun ⟨u, h⟩ => .inl ⟨u, by rw [upd_ne (ne_of h hD (by intro z; cases z))]; exact h⟩) fun h => .inr h
theorem scr_of {K : PySem.W.Frag} {H : Hp} {a : Addr} {xs : List V} (hO : Only H) (h : SqL K H a xs) : ScrAt K H a xs := by
  rcases h with (h | ⟨o, h⟩) | h
  · rcases hO a with z | ⟨o, ys, z⟩
    · rw [h] at z; cases z
    · rw [h] at z; cases z
  · exact .inl ⟨o, h⟩
  · exact .inr h
/-- the pool at p has drawn at most c times -/
def PoolOk (K : PySem.W.Frag) (p : Addr) (c : Nat) (H : Hp) : Prop := ∃ (sa : Addr) (ns : List Int) (c' i b s : Int), ScrAt K H sa (ns.map V.int) ∧ H p = some (.lst [.ref sa, .int c', .int i, .int b, .int s]) ∧ 0 ≤ c' ∧ c' ≤ (c : Int) ∧ 0 ≤ i ∧ i ≤ (ns.length : Int) ∧ 0 ≤ b ∧ 0 ≤ s ∧ s < 2147483629
theorem PoolOk.same {K : PySem.W.Frag} {p : Addr} {c : Nat} {H H' : Hp} (h : PoolOk K p c H) (e : Same H H') : PoolOk K p c H' := by
  obtain ⟨sa, ns, c', i, b, s, h1, h2, h3⟩ := h
  exact ⟨sa, ns, c', i, b, s, h1.gd e.gd, e _ _ h2, h3⟩
theorem PoolOk.mono {K : PySem.W.Frag} {p : Addr} {c d : Nat} {H : Hp} (h : PoolOk K p c H) (e : c ≤ d) : PoolOk K p d H := by
  obtain ⟨sa, ns, c', i, b, s, h1, h2, h3, h4, h5⟩ := h
  exact ⟨sa, ns, c', i, b, s, h1, h2, h3, by omega, h5⟩
/-- the pool is known, so a new address is another one -/
theorem PoolOk.ne {K : PySem.W.Frag} {p q : Addr} {c : Nat} {H : Hp} (h : PoolOk K p c H) (e : H q = none) : p ≠ q := by
  obtain ⟨sa, ns, c', i, b, s, h1, h2, h3⟩ := h
  exact ne_of_none h2 e
theorem PoolOk.upd {K : PySem.W.Frag} {p q : Addr} {c : Nat} {H : Hp} {o : HO} (h : PoolOk K p c H) (e : H q = none) : PoolOk K p c (upd H q o) := h.same (same_upd e)
/-- a list that stands (not the pool's) is changed: the pool stays -/
theorem PoolOk.mut {K : PySem.W.Frag} {p D : Addr} {c : Nat} {H : Hp} {ys : List V} {o : HO} (h : PoolOk K p c H) (hD : H D = some (.lst ys)) (n : ¬ isPool (.lst ys)) : PoolOk K p c (L2.upd H D o) := by
  obtain ⟨sa, ns, c', i, b, s, h1, h2, h3⟩ := h
  refine ⟨sa, ns, c', i, b, s, h1.mut hD, ?_, h3⟩
  rw [upd_ne (fun e => by
    subst e
    rw [h2] at hD
    injection hD with hD
    exact n ⟨sa, c', i, b, s, hD.symm⟩)]
  exact h2
theorem tyes {σ : St} {H : Hp} {A B : Hp → Prop} (h : A H) : tYes σ H fun b H3 => if b = true then A H3 else B H3 := by
  unfold tYes
  dsimp only
  rw [if_pos rfl]
  exact h
def pl (sa : Addr) (c i b s : Int) : HO := .lst [.ref sa, .int c, .int i, .int b, .int s]
theorem pl_pool (sa : Addr) (c i b s : Int) : isPool (pl sa c i b s) := ⟨sa, c, i, b, s, rfl⟩
theorem gd_pool {H : Hp} {p sa sa' : Addr} {c i b s c' i' b' s' : Int} (h : H p = some (pl sa c i b s)) : Gd H (upd H p (pl sa' c' i' b' s')) := ⟨fun x u n e => by
  have hx : x ≠ p := fun z => by
    subst z
    rw [h] at e
    injection e with e
    exact n ⟨sa, c, i, b, s, e.symm⟩
  rw [upd_ne hx]
  exact e, fun x u n e => by
  by_cases hx : x = p
  · subst hx
    exact ⟨_, pl_pool _ _ _ _ _, upd_same⟩
  · exact ⟨u, n, by rw [upd_ne hx]; exact e⟩⟩
def LIM : Nat := 1099511627776
def spDraw (K : PySem.W.Frag) : Sp := fun vs H Q _ => ∃ (p : Addr) (c : Nat) (lim : Int), vs = [.ref p, .int lim] ∧ PoolOk K p c H ∧ c < LIM ∧ 0 < lim ∧ lim < 2 ^ 200 ∧
  ∀ H' r, Gd H H' → PoolOk K p (c + 1) H' → 0 ≤ r → r < lim → Q (.int r) H'
def spPool (K : PySem.W.Frag) : Sp := fun vs H Q _ => ∃ (x : Addr) (ns : List Int), vs = [.ref x] ∧ ScrAt K H x (ns.map V.int) ∧ ∀ p H', H p = none → Same H H' → PoolOk K p 0 H' → Q (.ref p) H'
theorem atI0 {α : Type} {x : α} {r : List α} : atI (x :: r) 0 = some x := atI_nat (j := 0) rfl
theorem atI1 {α : Type} {x y : α} {r : List α} : atI (x :: y :: r) 1 = some y := atI_nat (j := 1) rfl
theorem atI2 {α : Type} {x y z : α} {r : List α} : atI (x :: y :: z :: r) 2 = some z := atI_nat (j := 2) rfl
theorem atI3 {α : Type} {x y z u : α} {r : List α} : atI (x :: y :: z :: u :: r) 3 = some u := atI_nat (j := 3) rfl
theorem atI4 {α : Type} {x y z u v : α} {r : List α} : atI (x :: y :: z :: u :: v :: r) 4 = some v := atI_nat (j := 4) rfl
/-! ## sets of questions by their ascending lists -/
def ask48 : List Int := (List.range 48).map fun i => ((i : Nat) : Int)
def norm (l : List Int) : List Int := ask48.filter fun x => decide (x ∈ l)
theorem mem_ask {x : Int} : x ∈ ask48 ↔ 0 ≤ x ∧ x < 48 := by
  unfold ask48
  rw [List.mem_map]
  constructor
  · rintro ⟨i, h, rfl⟩
    have := List.mem_range.mp h
    omega
  · rintro ⟨h0, h1⟩
    exact ⟨x.toNat, List.mem_range.mpr (by omega), by omega⟩
theorem mem_norm {l : List Int} {x : Int} : x ∈ norm l ↔ (0 ≤ x ∧ x < 48) ∧ x ∈ l := by
  unfold norm
  rw [List.mem_filter, mem_ask, decide_eq_true_eq]
theorem ask_sorted : ask48.Pairwise (· < ·) := by
  unfold ask48
  rw [List.pairwise_map]
  exact List.Pairwise.imp (fun h => by omega) List.pairwise_lt_range
theorem norm_sorted (l : List Int) : (norm l).Pairwise (· < ·) := ask_sorted.sublist List.filter_sublist
theorem norm_len (l : List Int) : (norm l).length ≤ 48 := by
  refine Nat.le_trans (List.length_filter_le _ _) ?_
  unfold ask48
  rw [List.length_map, List.length_range]
  exact Nat.le_refl _
theorem sorted_ext : ∀ {l l' : List Int}, l.Pairwise (· < ·) → l'.Pairwise (· < ·) → (∀ x, x ∈ l ↔ x ∈ l') → l = l'
  | [], [], _, _, _ => rfl
  | [], b :: r, _, _, h => absurd ((h b).mpr List.mem_cons_self) (by simp)
  | a :: r, [], _, _, h => absurd ((h a).mp List.mem_cons_self) (by simp)
  | a :: r, b :: s, h1, h2, h => by
    obtain ⟨ha, hr⟩ := List.pairwise_cons.mp h1
    obtain ⟨hb, hs⟩ := List.pairwise_cons.mp h2
    have e : a = b := by
      rcases List.mem_cons.mp ((h a).mp List.mem_cons_self) with e | e
      · exact e
      · rcases List.mem_cons.mp ((h b).mpr List.mem_cons_self) with e2 | e2
        · exact e2.symm
        · have := hb a e
          have := ha b e2
          omega
    subst e
    have : r = s := sorted_ext hr hs fun x => by
      constructor
      · intro hx
        rcases List.mem_cons.mp ((h x).mp (List.mem_cons_of_mem _ hx)) with e | e
        · have := ha x hx
          omega
        · exact e
      · intro hx
        rcases List.mem_cons.mp ((h x).mpr (List.mem_cons_of_mem _ hx)) with e | e
        · have := hb x hx
          omega
        · exact e
    rw [this]
theorem norm_ext {l l' : List Int} (h : ∀ x, 0 ≤ x → x < 48 → (x ∈ l ↔ x ∈ l')) : norm l = norm l' :=
  sorted_ext (norm_sorted l) (norm_sorted l') fun x => by
    rw [mem_norm, mem_norm]
    constructor
    · rintro ⟨a, b⟩; exact ⟨a, (h x a.1 a.2).mp b⟩
    · rintro ⟨a, b⟩; exact ⟨a, (h x a.1 a.2).mpr b⟩
theorem norm_of_sorted {l l' : List Int} (h : l.Pairwise (· < ·)) (hm : ∀ x, x ∈ l ↔ x ∈ l') (hr : ∀ x ∈ l', 0 ≤ x ∧ x < 48) : l = norm l' :=
  sorted_ext h (norm_sorted l') fun x => by
    rw [hm, mem_norm]
    exact ⟨fun a => ⟨hr x a, a⟩, fun a => a.2⟩
theorem norm_eq_iff {l l' : List Int} : norm l = norm l' ↔ ∀ x, 0 ≤ x → x < 48 → (x ∈ l ↔ x ∈ l') := by
  constructor
  · intro e x h0 h1
    have : x ∈ norm l ↔ x ∈ norm l' := by rw [e]
    rw [mem_norm, mem_norm] at this
    exact ⟨fun a => (this.mp ⟨⟨h0, h1⟩, a⟩).2, fun a => (this.mpr ⟨⟨h0, h1⟩, a⟩).2⟩
  · exact norm_ext
theorem norm_filter (l : List Int) (p : Int → Bool) : (norm l).filter p = norm (l.filter p) := by
  refine sorted_ext ((norm_sorted l).sublist List.filter_sublist) (norm_sorted _) fun x => ?_
  rw [List.mem_filter, mem_norm, mem_norm, List.mem_filter]
  constructor
  · rintro ⟨⟨a, b⟩, c⟩; exact ⟨a, b, c⟩
  · rintro ⟨a, b, c⟩; exact ⟨⟨a, b⟩, c⟩
theorem norm_norm (l : List Int) : norm (norm l) = norm l := norm_ext fun x h0 h1 => by
  rw [mem_norm]
  exact ⟨fun a => a.2, fun a => ⟨⟨h0, h1⟩, a⟩⟩
/-! ## values -/
theorem flat_ints (ns : List Int) : (ns.map V.int).all flatV = true := by
  rw [List.all_eq_true]
  intro x hx
  obtain ⟨i, _, rfl⟩ := List.mem_map.mp hx
  rfl
theorem eqV_int (i j : Int) : eqV (.int i) (.int j) = decide (i = j) := by
  show (i == j) = _
  rw [Bool.eq_iff_iff]
  simp
theorem in_ints (x : Int) (ns : List Int) : inV (.int x) (ns.map V.int) = decide (x ∈ ns) := by
  unfold inV
  rw [Bool.eq_iff_iff, List.any_eq_true, decide_eq_true_eq]
  constructor
  · rintro ⟨y, hy, e⟩
    obtain ⟨i, hi, rfl⟩ := List.mem_map.mp hy
    rw [eqV_int, decide_eq_true_eq] at e
    exact e ▸ hi
  · intro h
    exact ⟨.int x, List.mem_map.mpr ⟨x, h, rfl⟩, by rw [eqV_int, decide_eq_true_eq]⟩
theorem dpAll_ints {K : PySem.W.Frag} {H : Hp} : ∀ ns : List Int, DpAll K H (ns.map V.int) (ns.map PyData.int)
  | [] => .nil
  | n :: r => .cons (.int n) (dpAll_ints r)
theorem canLay_ints : ∀ ns : List Int, PyData.canLayAll0 (ns.map PyData.int) = true
  | [] => by rw [List.map_nil, PyData.canLayAll0]
  | n :: r => by
    rw [List.map_cons, PyData.canLayAll0, canLay_ints r]
    rfl
theorem depth_ints : ∀ ns : List Int, PyData.depthAll (ns.map PyData.int) = 0
  | [] => by rw [List.map_nil, PyData.depthAll]
  | n :: r => by
    rw [List.map_cons, PyData.depthAll, depth_ints r]
    rfl
theorem shT (ns : List Int) : SeqAt.shaped (.tuple (ns.map PyData.int)) = true := by
  simp [SeqAt.shaped, PyData.canLay0, canLay_ints, PyData.depth, depth_ints]
theorem shL (ns : List Int) : SeqAt.shaped (.list (ns.map PyData.int)) = true := by
  simp [SeqAt.shaped, PyData.canLay0, canLay_ints, PyData.depth, depth_ints]
theorem evT (ns ms : List Int) : PyData.eqv (.tuple (ns.map PyData.int)) (.tuple (ms.map PyData.int)) = decide (ns = ms) := by
  rw [PyData.eqv, PySem.W.ked_eqvAll]
theorem evL (ns ms : List Int) : PyData.eqv (.list (ns.map PyData.int)) (.list (ms.map PyData.int)) = decide (ns = ms) := by
  rw [PyData.eqv, PySem.W.ked_eqvAll]
theorem eqD_tup {K : PySem.W.Frag} {H : Hp} {a b : Addr} {ns ms : List Int} {Q : VK} (h1 : SqT K H a (ns.map V.int)) (h2 : SqT K H b (ms.map V.int)) (q : Q (.bl (decide (ns = ms))) H) : rEqD K (.ref a) (.ref b) H Q :=
  ⟨_, _, .tup h1 (dpAll_ints ns), .tup h2 (dpAll_ints ms), shT ns, shT ms, by rw [evT]; exact q⟩
theorem neD_tup {K : PySem.W.Frag} {H : Hp} {a b : Addr} {ns ms : List Int} {Q : VK} (h1 : SqT K H a (ns.map V.int)) (h2 : SqT K H b (ms.map V.int)) (q : Q (.bl (!decide (ns = ms))) H) : rNeD K (.ref a) (.ref b) H Q :=
  ⟨_, _, .tup h1 (dpAll_ints ns), .tup h2 (dpAll_ints ms), shT ns, shT ms, by rw [evT]; exact q⟩
theorem eqD_lst {K : PySem.W.Frag} {H : Hp} {a b : Addr} {ns ms : List Int} {Q : VK} (h1 : SqL K H a (ns.map V.int)) (h2 : SqL K H b (ms.map V.int)) (q : Q (.bl (decide (ns = ms))) H) : rEqD K (.ref a) (.ref b) H Q :=
  ⟨_, _, .lst h1 (dpAll_ints ns), .lst h2 (dpAll_ints ms), shL ns, shL ms, by rw [evL]; exact q⟩
theorem neD_lst {K : PySem.W.Frag} {H : Hp} {a b : Addr} {ns ms : List Int} {Q : VK} (h1 : SqL K H a (ns.map V.int)) (h2 : SqL K H b (ms.map V.int)) (q : Q (.bl (!decide (ns = ms))) H) : rNeD K (.ref a) (.ref b) H Q :=
  ⟨_, _, .lst h1 (dpAll_ints ns), .lst h2 (dpAll_ints ms), shL ns, shL ms, by rw [evL]; exact q⟩
/-! ## pupils -/
/-- at a a pupil whose rights are the ascending list of l -/
def PupAt (C : Addr) (H : Hp) (a : Addr) (l : List Int) : Prop := ∃ dx t, H a = some (.ins C dx [("rights", .ref t)]) ∧ H t = some (.tup ((norm l).map V.int))
theorem PupAt.same {C a : Addr} {H H' : Hp} {l : List Int} (e : Same H H') (h : PupAt C H a l) : PupAt C H' a l := by
  obtain ⟨dx, t, h1, h2⟩ := h
  exact ⟨dx, t, e _ _ h1, e _ _ h2⟩
theorem PupAt.gd {C a : Addr} {H H' : Hp} {l : List Int} (e : Gd H H') (h : PupAt C H a l) : PupAt C H' a l := by
  obtain ⟨dx, t, h1, h2⟩ := h
  exact ⟨dx, t, e.1 _ _ (np_ins _ _ _) h1, e.1 _ _ (np_tup _) h2⟩
theorem PupAt.eq {C a : Addr} {H : Hp} {l l' : List Int} (h : PupAt C H a l) (e : norm l = norm l') : PupAt C H a l' := by
  obtain ⟨dx, t, h1, h2⟩ := h
  exact ⟨dx, t, h1, by rw [← e]; exact h2⟩
/-- questions: each from 0 to 47 -/
def Qn (l : List Int) : Prop := ∀ k ∈ l, 0 ≤ k ∧ k < 48
def SqA (K : PySem.W.Frag) (H : Hp) (q : Addr) (xs : List V) : Prop := SqL K H q xs ∨ SqT K H q xs
def spInit (K : PySem.W.Frag) (C : Addr) : Sp := fun vs H Q _ => ∃ (x dx q : Addr) (l : List Int), vs = [.ref x, .ref q] ∧ H x = some (.ins C dx []) ∧ SqA K H q (l.map V.int) ∧ l.length ≤ 500 ∧ Qn l ∧
  ∀ H' t, H' x = some (.ins C dx [("rights", .ref t)]) → H' t = some (.tup ((norm l).map V.int)) → (∀ b o, b ≠ x → H b = some o → H' b = some o) → Q .non H'
theorem SqA.same {K : PySem.W.Frag} {H H' : Hp} {q : Addr} {xs : List V} (e : Same H H') (h : SqA K H q xs) : SqA K H' q xs := h.elim (fun h => .inl (e.seq h)) fun h => .inr (e.seqT h)
theorem pup_make {K : PySem.W.Frag} {C q : Addr} {H : Hp} {l : List Int} {R : Addr → Hp → Prop} {E : XK} (hq : SqA K H q (l.map V.int)) (hl : l.length ≤ 500) (hn : Qn l) (k : ∀ x H', H x = none → Same H H' → PupAt C H' x l → R x H') :
    ∀ x dx, H x = none → H dx = none → dx ≠ x → spInit K C (.ref x :: ([.ref q] ++ [])) (upd (upd H dx (.own x)) x (.ins C dx [])) (fun v H2 => v = .non ∧ R x H2) E := by
  intro x dx nx ndx ne
  have s0 : Same H (upd (upd H dx (.own x)) x (.ins C dx [])) := (same_upd ndx).mut nx
  refine ⟨x, dx, q, l, rfl, upd_same, hq.same s0, hl, hn, fun H' t h1 h2 h3 => ⟨rfl, k x H' nx (fun b o e => ?_) ⟨dx, t, h1, h2⟩⟩⟩
  exact h3 b o (ne_of_none e nx) (s0 b o e)
def spBin (C : Addr) (f : List Int → List Int → List Int) : Sp := fun vs H Q _ => ∃ (a b : Addr) (p q : List Int), vs = [.ref a, .ref b] ∧ PupAt C H a p ∧ PupAt C H b q ∧ ∀ x H', H x = none → Same H H' → PupAt C H' x (f p q) → Q (.ref x) H'
def spRel (C : Addr) (f : List Int → List Int → Bool) : Sp := fun vs H Q _ => ∃ (a b : Addr) (p q : List Int), vs = [.ref a, .ref b] ∧ PupAt C H a p ∧ PupAt C H b q ∧ ∀ H', Same H H' → Q (.bl (f (norm p) (norm q))) H'
def fOr (p q : List Int) : List Int := p ++ q
def fAnd (p q : List Int) : List Int := p.filter fun x => decide (x ∈ q)
def fSub (p q : List Int) : List Int := p.filter fun x => !decide (x ∈ q)
def fLe (p q : List Int) : Bool := p.all fun x => decide (x ∈ q)
def fEq (p q : List Int) : Bool := decide (p = q)
theorem norm_or (p q : List Int) : norm (norm p ++ norm q) = norm (p ++ q) := norm_ext fun x h0 h1 => by
  simp only [List.mem_append, mem_norm]
  exact ⟨fun h => h.elim (fun a => .inl a.2) fun a => .inr a.2, fun h => h.elim (fun a => .inl ⟨⟨h0, h1⟩, a⟩) fun a => .inr ⟨⟨h0, h1⟩, a⟩⟩
theorem qn_norm (l : List Int) : Qn (norm l) := fun k hk => (mem_norm.mp hk).1
theorem qn_append {l m : List Int} (h1 : Qn l) (h2 : Qn m) : Qn (l ++ m) := fun k hk => (List.mem_append.mp hk).elim (h1 k) (h2 k)
theorem qn_filter {l : List Int} {p : Int → Bool} (h1 : Qn l) : Qn (l.filter p) := fun k hk => h1 k (List.mem_filter.mp hk).1
/-- a comprehension over a list that keeps some of its ints as they are -/
theorem filter_take_succ {l : List Int} {p : Int → Bool} {i : Nat} {x : Int} (h : l[i]? = some x) : (l.take (i + 1)).filter p = (l.take i).filter p ++ (if p x = true then [x] else []) := by
  rw [List.take_add_one, h, List.filter_append]
  show _ ++ List.filter p [x] = _
  rw [List.filter_cons]
  rfl
theorem get_map_int {l : List Int} {i : Nat} {v : V} (h : (l.map V.int)[i]? = some v) : ∃ x, l[i]? = some x ∧ v = .int x := by
  rw [List.getElem?_map] at h
  cases e : l[i]? with
  | none => rw [e] at h; cases h
  | some x => rw [e] at h; exact ⟨x, rfl, (Option.some.inj h).symm⟩
theorem catA_k {K : PySem.W.Frag} {H : Hp} {a b : Addr} {xs ys : List V} {Q : VK} (h1 : SqT K H a xs) (h2 : SqT K H b ys) (hl : xs.length + ys.length ≤ sizeLine) (k : ∀ p H', Same H H' → SqT K H' p (xs ++ ys) → Q (.ref p) H') : rCatA K (.ref a) (.ref b) H Q := by
  refine ⟨a, b, xs, ys, rfl, rfl, h1, h2, hl, fun e => ?_, fun _ e => ?_, fun _ _ p hp => k p _ (same_upd hp) (.inl (.inl upd_same))⟩
  · subst e
    exact k b H (Same.refl H) h2
  · subst e
    exact k a H (Same.refl H) (by rw [List.append_nil]; exact h1)
section
variable {K : PySem.W.Frag} {a : Addr} {tt : TT} {te : TE} {vs : List Nat} {σ : St} {H1 : Hp} {D : Addr} {Qd : Hp → Prop} {j : Nat}
/-- one turn of a comprehension that keeps some ints as they are -/
theorem filt_turn {ns : List Int} {p : Int → Bool} {i : Nat} {x : Int} {H : Hp} (nD : H1 D = none) (hlen : ns.length < 100000) (hx : ns[i]? = some x)
    (ht : ∀ H', Same H1 H' → ∀ R : Bool → Hp → Prop, R (p x) H' → tt ((wipe σ vs).set j (some (.int x))) H' R) (he : ∀ H', Same H1 H' → ∀ R : VK, R (.int x) H' → te ((wipe σ vs).set j (some (.int x))) H' R)
    (h : Same H1 H ∧ H D = some (.lst (((ns.take i).filter p).map V.int))) :
    tt ((wipe σ vs).set j (some (.int x))) H fun b H3 => if b = true then te ((wipe σ vs).set j (some (.int x))) H3 fun y H4 => ∃ acc, H4 D = some (.lst acc) ∧ acc.length < sizeLine ∧ (Same H1 (upd H4 D (.lst (acc ++ [y]))) ∧ upd H4 D (.lst (acc ++ [y])) D = some (.lst (((ns.take (i + 1)).filter p).map V.int)))
      else (Same H1 H3 ∧ H3 D = some (.lst (((ns.take (i + 1)).filter p).map V.int))) := by
  obtain ⟨e, hD⟩ := h
  refine ht H e _ ?_
  have ef := filter_take_succ (p := p) hx
  cases hp : p x with
  | true =>
    rw [hp] at ef
    refine iteT (he H e _ ⟨_, hD, ?_, e.mut nD, ?_⟩)
    · rw [List.length_map]
      have h1 := List.length_filter_le p (ns.take i)
      have h2 := List.length_take_le i ns
      have h3 : (ns.take i).length ≤ ns.length := by rw [List.length_take]; exact Nat.min_le_right _ _
      rw [sizeLine_eq]; omega
    · rw [upd_same, ef, List.map_append]
      rfl
  | false =>
    rw [hp] at ef
    refine iteF ⟨e, ?_⟩
    rw [ef, if_neg (by decide), List.append_nil]
    exact hD
def lcT_filter {ns : List Int} (p : Int → Bool) (hs : SqT K H1 a (ns.map V.int)) (nD : H1 D = none) (hlen : ns.length < 100000) (hw : ∀ x, wipe ((wipe σ vs).set j (some x)) vs = wipe σ vs)
    (ht : ∀ x ∈ ns, ∀ H', Same H1 H' → ∀ R : Bool → Hp → Prop, R (p x) H' → tt ((wipe σ vs).set j (some (.int x))) H' R) (he : ∀ x ∈ ns, ∀ H', Same H1 H' → ∀ R : VK, R (.int x) H' → te ((wipe σ vs).set j (some (.int x))) H' R)
    (k : ∀ H', Same H1 H' → H' D = some (.lst ((ns.filter p).map V.int)) → Qd H') := 
  lc_tup (K := K) (a := a) (xs := ns.map V.int) (g := gName j) (tt := tt) (te := te) (vs := vs) (σ := σ) (H1 := H1) (D := D) (Qd := Qd) (fun i H => Same H1 H ∧ H D = some (.lst (((ns.take i).filter p).map V.int))) ⟨same_upd nD, upd_same⟩ (fun i H _ h => h.1.seqT hs)
    (fun i y H hi h => by
      obtain ⟨x, hx, rfl⟩ := get_map_int hi
      have hm := List.mem_of_getElem? hx
      exact ⟨hw _, filt_turn nD hlen hx (ht x hm) (he x hm) h⟩)
    (fun H h => k H h.1 (by have := h.2; rw [List.length_map, List.take_length] at this; exact this))
def lcL_filter {ns : List Int} (p : Int → Bool) (hs : SqL K H1 a (ns.map V.int)) (nD : H1 D = none) (hlen : ns.length < 100000) (hw : ∀ x, wipe ((wipe σ vs).set j (some x)) vs = wipe σ vs)
    (ht : ∀ x ∈ ns, ∀ H', Same H1 H' → ∀ R : Bool → Hp → Prop, R (p x) H' → tt ((wipe σ vs).set j (some (.int x))) H' R) (he : ∀ x ∈ ns, ∀ H', Same H1 H' → ∀ R : VK, R (.int x) H' → te ((wipe σ vs).set j (some (.int x))) H' R)
    (k : ∀ H', Same H1 H' → H' D = some (.lst ((ns.filter p).map V.int)) → Qd H') := 
  lc_list (K := K) (a := a) (xs := ns.map V.int) (g := gName j) (tt := tt) (te := te) (vs := vs) (σ := σ) (H1 := H1) (D := D) (Qd := Qd) (fun i H => Same H1 H ∧ H D = some (.lst (((ns.take i).filter p).map V.int))) ⟨same_upd nD, upd_same⟩ (fun i H _ h => h.1.seq hs)
    (fun i y H hi h => by
      obtain ⟨x, hx, rfl⟩ := get_map_int hi
      have hm := List.mem_of_getElem? hx
      exact ⟨hw _, filt_turn nD hlen hx (ht x hm) (he x hm) h⟩)
    (fun H h => k H h.1 (by have := h.2; rw [List.length_map, List.take_length] at this; exact this))
def rgI (n : Nat) : List Int := (List.range n).map fun i => ((i : Nat) : Int)
theorem rgI_get {n i : Nat} (h : i < n) : (rgI n)[i]? = some (i : Int) := by
  unfold rgI
  rw [List.getElem?_map, List.getElem?_range h]
  rfl
theorem rgI_length (n : Nat) : (rgI n).length = n := by unfold rgI; rw [List.length_map, List.length_range]
theorem mem_rgI {n : Nat} {x : Int} : x ∈ rgI n ↔ 0 ≤ x ∧ x < n := by
  unfold rgI
  rw [List.mem_map]
  constructor
  · rintro ⟨i, h, rfl⟩
    have := List.mem_range.mp h
    omega
  · rintro ⟨h0, h1⟩
    exact ⟨x.toNat, List.mem_range.mpr (by omega), by omega⟩
def lcR_filter {n : Nat} (p : Int → Bool) (nD : H1 D = none) (hlen : n < 100000) (hw : ∀ x, wipe ((wipe σ vs).set j (some x)) vs = wipe σ vs)
    (ht : ∀ x ∈ rgI n, ∀ H', Same H1 H' → ∀ R : Bool → Hp → Prop, R (p x) H' → tt ((wipe σ vs).set j (some (.int x))) H' R) (he : ∀ x ∈ rgI n, ∀ H', Same H1 H' → ∀ R : VK, R (.int x) H' → te ((wipe σ vs).set j (some (.int x))) H' R)
    (k : ∀ H', Same H1 H' → H' D = some (.lst (((rgI n).filter p).map V.int)) → Qd H') := 
  lc_range (lo := 0) (n := n) (g := gName j) (tt := tt) (te := te) (vs := vs) (σ := σ) (H1 := H1) (D := D) (Qd := Qd) (fun i H => Same H1 H ∧ H D = some (.lst ((((rgI n).take i).filter p).map V.int))) ⟨same_upd nD, upd_same⟩
    (fun i H hi h => by
      have hx := rgI_get hi
      have hm := List.mem_of_getElem? hx
      have e0 : (0 : Int) + ((i : Nat) : Int) = (i : Int) := Int.zero_add _
      rw [e0]
      exact ⟨hw _, filt_turn nD (by rw [rgI_length]; exact hlen) hx (ht _ hm) (he _ hm) h⟩)
    (fun H h => k H h.1 (by have := h.2; rw [List.take_of_length_le (by rw [rgI_length]; exact Nat.le_refl n)] at this; exact this))
theorem in_k {K : PySem.W.Frag} {neg : Bool} {x : Int} {q : Addr} {ns : List Int} {H : Hp} {Q : VK} (h : SqL K H q (ns.map V.int) ∨ SqT K H q (ns.map V.int)) (k : Q (.bl (if neg then !decide (x ∈ ns) else decide (x ∈ ns))) H) : rIn K neg (.int x) (.ref q) H Q :=
  ⟨q, _, rfl, h, rfl, flat_ints ns, by rw [in_ints]; exact k⟩
theorem tup_of {K : PySem.W.Frag} {H : Hp} {q : Addr} {xs : List V} (h : H q = some (.tup xs)) : SqT K H q xs := .inl (.inl h)
theorem lst_of {K : PySem.W.Frag} {H : Hp} {q : Addr} {xs : List V} (h : H q = some (.lst xs)) : SqL K H q xs := .inl (.inl h)
end
def Draws (K : PySem.W.Frag) (p : Addr) (c : Nat) (H H' : Hp) : Prop := Gd H H' ∧ PoolOk K p c H'
/-- _law_some: a new list of fewer than m questions -/
def spSome (K : PySem.W.Frag) : Sp := fun vs H Q _ => ∃ (p : Addr) (c : Nat) (m : Int), vs = [.ref p, .int m] ∧ PoolOk K p c H ∧ c + 200 < LIM ∧ 0 < m ∧ m ≤ 100 ∧
  ∀ H' D l, H D = none → Gd H H' → PoolOk K p (c + 200) H' → H' D = some (.lst (l.map V.int)) → Qn l → (l.length : Int) < m → Q (.ref D) H'
/-- _law_set: the ascending list -/
def spSet (K : PySem.W.Frag) : Sp := fun vs H Q _ => ∃ (q : Addr) (l : List Int), vs = [.ref q] ∧ SqL K H q (l.map V.int) ∧
  ∀ H' D, H D = none → Same H H' → H' D = some (.lst ((norm l).map V.int)) → Q (.ref D) H'
theorem ask_rg : ask48 = rgI 48 := rfl
theorem norm_rg (l : List Int) : (rgI 48).filter (fun x => decide (x ∈ l)) = norm l := rfl
theorem own_bin {C x y : Addr} {f : List Int → List Int → List Int} {l m : List Int} {H : Hp} {Q : VK} {E : XK} (px : PupAt C H x l) (py : PupAt C H y m) (k : ∀ z H', H z = none → Same H H' → PupAt C H' z (f l m) → Q (.ref z) H') :
    rOwn C (spBin C f) E (.ref x) (.ref y) H Q := by
  obtain ⟨dx, t, hx, _⟩ := id px
  obtain ⟨dy, u, hy, _⟩ := id py
  exact ⟨x, y, dx, dy, _, _, rfl, rfl, hx, hy, x, y, l, m, rfl, px, py, k⟩
theorem own_rel {C x y : Addr} {f : List Int → List Int → Bool} {l m : List Int} {H : Hp} {Q : VK} {E : XK} (px : PupAt C H x l) (py : PupAt C H y m) (k : ∀ H', Same H H' → Q (.bl (f (norm l) (norm m))) H') :
    rOwn C (spRel C f) E (.ref x) (.ref y) H Q := by
  obtain ⟨dx, t, hx, _⟩ := id px
  obtain ⟨dy, u, hy, _⟩ := id py
  exact ⟨x, y, dx, dy, _, _, rfl, rfl, hx, hy, x, y, l, m, rfl, px, py, k⟩
theorem fld_rights {K : PySem.W.Frag} {C x : Addr} {l : List Int} {H : Hp} {Q : VK} (px : PupAt C H x l) (c : Cls K C) (n : NoAttr K C "rights") (k : ∀ t, H t = some (.tup ((norm l).map V.int)) → Q (.ref t) H) :
    ∃ a C dx fs v, V.ref x = .ref a ∧ H a = some (.ins C dx fs) ∧ Cls K C ∧ NoAttr K C "rights" ∧ fs.lookup ("rights" : Str) = some v ∧ Q v H := by
  obtain ⟨dx, t, hx, ht⟩ := px
  exact ⟨x, C, dx, _, .ref t, rfl, hx, c, n, rfl, k t ht⟩
/-! the pure facts -/
theorem le_within {l m : List Int} (h1 : Qn l) : fLe (norm l) (norm m) = decide (l.filter (fun x => !decide (x ∈ m)) = []) := by
  rw [Bool.eq_iff_iff]
  unfold fLe
  rw [List.all_eq_true, decide_eq_true_eq, List.filter_eq_nil_iff]
  constructor
  · intro h x hx
    have := h x (mem_norm.mpr ⟨h1 x hx, hx⟩)
    rw [decide_eq_true_eq, mem_norm] at this
    simp [this.2]
  · intro h x hx
    obtain ⟨a, b⟩ := mem_norm.mp hx
    have := h x b
    rw [decide_eq_true_eq, mem_norm]
    exact ⟨a, by simpa using this⟩
theorem or_within {l m : List Int} (h1 : Qn l) : fEq (norm (fOr l m)) (norm m) = decide (l.filter (fun x => !decide (x ∈ m)) = []) := by
  rw [Bool.eq_iff_iff]
  unfold fEq fOr
  rw [decide_eq_true_eq, decide_eq_true_eq, List.filter_eq_nil_iff, norm_eq_iff]
  constructor
  · intro h x hx
    have := (h x (h1 x hx).1 (h1 x hx).2).mp (List.mem_append.mpr (.inl hx))
    simp [this]
  · intro h x h0 h1
    rw [List.mem_append]
    exact ⟨fun a => a.elim (fun b => by simpa using h x b) id, .inr⟩
theorem and_within {l m : List Int} (h1 : Qn l) : fEq (norm (fAnd l m)) (norm l) = decide (l.filter (fun x => !decide (x ∈ m)) = []) := by
  rw [Bool.eq_iff_iff]
  unfold fEq fAnd
  rw [decide_eq_true_eq, decide_eq_true_eq, List.filter_eq_nil_iff, norm_eq_iff]
  constructor
  · intro h x hx
    have := (h x (h1 x hx).1 (h1 x hx).2).mpr hx
    rw [List.mem_filter] at this
    simp [of_decide_eq_true this.2]
  · intro h x h0 h1
    rw [List.mem_filter]
    exact ⟨fun a => a.1, fun a => ⟨a, by simpa using h x a⟩⟩
theorem le_or (l m : List Int) : fLe (norm l) (norm (fOr l m)) = true := by
  unfold fLe fOr
  rw [List.all_eq_true]
  intro x hx
  obtain ⟨a, b⟩ := mem_norm.mp hx
  exact decide_eq_true (mem_norm.mpr ⟨a, List.mem_append.mpr (.inl b)⟩)
theorem le_and (l m : List Int) : fLe (norm (fAnd l m)) (norm m) = true := by
  unfold fLe fAnd
  rw [List.all_eq_true]
  intro x hx
  obtain ⟨a, b⟩ := mem_norm.mp hx
  exact decide_eq_true (mem_norm.mpr ⟨a, of_decide_eq_true (List.mem_filter.mp b).2⟩)
theorem sub_and (l m : List Int) : norm (fAnd (fSub l m) m) = [] := by
  unfold norm fAnd fSub
  rw [List.filter_eq_nil_iff]
  intro x _ h
  have h := of_decide_eq_true h
  rw [List.mem_filter, List.mem_filter] at h
  obtain ⟨⟨_, h2⟩, h3⟩ := h
  have := of_decide_eq_true h3
  simp [this] at h2
theorem sub_or_and (l m : List Int) : norm (fOr (fSub l m) (fAnd l m)) = norm l := norm_ext fun x h0 h1 => by
  unfold fOr fSub fAnd
  rw [List.mem_append, List.mem_filter, List.mem_filter]
  by_cases h : x ∈ m <;> simp [h]
theorem and_set (l m : List Int) : norm (fAnd l m) = (norm l).filter fun x => decide (x ∈ m) := by
  unfold fAnd
  rw [norm_filter]
theorem sub_set (l m : List Int) : norm (fSub l m) = (norm l).filter fun x => !decide (x ∈ m) := by
  unfold fSub
  rw [norm_filter]
theorem ne_false {l m : List Int} (e : l = m) : (!decide (l = m)) = false := by simp [e]
def spPair (K : PySem.W.Frag) : Sp := fun vs H Q _ => ∃ (o t : Addr) (l m : List Int), vs = [.ref o, .ref t] ∧ H o = some (.lst (l.map V.int)) ∧ H t = some (.lst (m.map V.int)) ∧ Qn l ∧ Qn m ∧ l.length ≤ 200 ∧ m.length ≤ 200 ∧ ∀ H', Same H H' → Q (.bl true) H'
theorem kit_bool {K : PySem.W.Frag} : PySem.W.kitOne K (.type "bool") (.type "bool") = some true := kit_ty (by decide +kernel)
theorem dec_self (b : Bool) : (!decide (V.bl b = V.bl b)) = false := by simp
theorem rg_ints (n : Nat) : rgV 0 (n : Int) = (rgI n).map V.int := by
  unfold rgV rgI
  rw [List.map_map, Int.sub_zero, Int.toNat_natCast]
  refine List.map_congr_left fun i _ => ?_
  show V.int (0 + (i : Int)) = V.int (i : Int)
  rw [Int.zero_add]
/-- a list of questions at r -/
def QsAt (H : Hp) (r : Addr) (l : List Int) : Prop := H r = some (.lst (l.map V.int)) ∧ Qn l ∧ l.length ≤ 200
theorem QsAt.gd {H H' : Hp} {r : Addr} {l : List Int} (e : Gd H H') (h : QsAt H r l) : QsAt H' r l := ⟨e.1 _ _ (np_ints l) h.1, h.2⟩
theorem QsAt.same {H H' : Hp} {r : Addr} {l : List Int} (e : Same H H') (h : QsAt H r l) : QsAt H' r l := h.gd e.gd
theorem two_at {x y : V} {r : Int} (h0 : 0 ≤ r) (h1 : r < 2) : atI [x, y] r = some (if r = 0 then x else y) := by
  rcases (show r = 0 ∨ r = 1 by omega) with e | e
  · subst e; exact atI0
  · subst e; exact atI1
/-! ## a pupil beside the ascending list of its questions -/
theorem np_refs (xs : List Addr) : ¬ isPool (.lst (xs.map V.ref)) := by
  rintro ⟨a, c, i, b, s, h⟩
  cases xs with
  | nil => cases h
  | cons x r =>
    injection h with h
    injection h with _ h
    cases r with
    | nil => cases h
    | cons y r => injection h with h _; cases h
def Pr (C : Addr) (H : Hp) (x y : Addr) : Prop := ∃ l, PupAt C H x l ∧ H y = some (.lst ((norm l).map V.int))
theorem Pr.same {C x y : Addr} {H H' : Hp} (e : Same H H') (h : Pr C H x y) : Pr C H' x y := let ⟨l, a, b⟩ := h; ⟨l, a.same e, e _ _ b⟩
theorem Pr.gd {C x y : Addr} {H H' : Hp} (e : Gd H H') (h : Pr C H x y) : Pr C H' x y := let ⟨l, a, b⟩ := h; ⟨l, a.gd e, e.1 _ _ (np_ints _) b⟩
theorem PupAt.mut {C x q : Addr} {H : Hp} {l : List Int} {zs : List V} {o : HO} (hq : H q = some (.lst zs)) (h : PupAt C H x l) : PupAt C (upd H q o) x l := by
  obtain ⟨dx, t, h1, h2⟩ := h
  exact ⟨dx, t, by rw [upd_ne (ne_of h1 hq (by intro z; cases z))]; exact h1, by rw [upd_ne (ne_of h2 hq (by intro z; cases z))]; exact h2⟩
theorem Pr.mut {C x y q : Addr} {H : Hp} {zs : List V} {o : HO} (hq : H q = some (.lst zs)) (ne : y ≠ q) (h : Pr C H x y) : Pr C (upd H q o) x y := let ⟨l, a, b⟩ := h; ⟨l, a.mut hq, by rw [upd_ne ne]; exact b⟩
theorem Pr.ne {C x y q z : Addr} {H : Hp} {zs : List V} (h : Pr C H x y) (hq : H q = some (.lst (.ref z :: zs))) : y ≠ q := by
  obtain ⟨l, a, b⟩ := h
  refine ne_of b hq fun e => ?_
  injection e with e
  cases hn : norm l with
  | nil => rw [hn] at e; cases e
  | cons u r => rw [hn] at e; injection e with e _; cases e
def Tri (C : Addr) (H : Hp) (PL SL : Addr) (xs ys : List Addr) : Prop := H PL = some (.lst (xs.map V.ref)) ∧ H SL = some (.lst (ys.map V.ref)) ∧ xs.length = 3 ∧ ys.length = 3 ∧ ∀ (k : Nat) x y, xs[k]? = some x → ys[k]? = some y → Pr C H x y
theorem Tri.gd {C PL SL : Addr} {H H' : Hp} {xs ys : List Addr} (e : Gd H H') (h : Tri C H PL SL xs ys) : Tri C H' PL SL xs ys :=
  ⟨e.1 _ _ (np_refs _) h.1, e.1 _ _ (np_refs _) h.2.1, h.2.2.1, h.2.2.2.1, fun k x y a b => (h.2.2.2.2 k x y a b).gd e⟩
theorem at_ref {xs : List Addr} {r : Int} (h0 : 0 ≤ r) (h1 : r < (xs.length : Int)) : ∃ (j : Nat) (x : Addr), xs[j]? = some x ∧ r = (j : Int) ∧ j < xs.length ∧ atI (xs.map V.ref) r = some (.ref x) := by
  obtain ⟨j, rfl⟩ : ∃ j : Nat, r = (j : Int) := ⟨r.toNat, by omega⟩
  have hj : j < xs.length := by omega
  refine ⟨j, xs[j], List.getElem?_eq_getElem hj, rfl, hj, atI_nat ?_⟩
  rw [List.getElem?_map, List.getElem?_eq_getElem hj]
  rfl
theorem get3 {xs : List Addr} {j : Nat} (h : xs.length = 3) (hj : j < 3) : ∃ x, xs[j]? = some x := ⟨xs[j]'(by omega), List.getElem?_eq_getElem _⟩
def spHas (C : Addr) : Sp := fun vs H Q _ => ∃ (a : Addr) (p : List Int) (z : Int), vs = [.ref a, .int z] ∧ PupAt C H a p ∧ Q (.bl (decide (z ∈ norm p))) H
def spLen (C : Addr) : Sp := fun vs H Q _ => ∃ (a : Addr) (p : List Int), vs = [.ref a] ∧ PupAt C H a p ∧ Q (.int ((norm p).length : Nat)) H
def spAdded (C : Addr) : Sp := fun vs H Q _ => ∃ (a : Addr) (p : List Int) (z : Int), vs = [.ref a, .int z] ∧ PupAt C H a p ∧ 0 ≤ z ∧ z < 48 ∧ ∀ x H', H x = none → Same H H' → PupAt C H' x (p ++ [z]) → Q (.ref x) H'
def spAfter (K : PySem.W.Frag) (C : Addr) : Sp := fun vs H Q _ => ∃ (p PL SL : Addr) (c : Nat) (xs ys : List Addr), vs = [.ref p, .ref PL, .ref SL] ∧ PoolOk K p c H ∧ c + 100 < LIM ∧ Tri C H PL SL xs ys ∧
  ∀ H' t x y, Gd H H' → PoolOk K p (c + 100) H' → H' t = some (.tup [.ref x, .ref y]) → H y = none → Pr C H' x y → Q (.ref t) H'
def spRight (C : Addr) : Sp := fun vs H Q _ => ∃ (PL SL : Addr) (xs ys : List Addr), vs = [.ref PL, .ref SL] ∧ Tri C H PL SL xs ys ∧ ∀ H', Same H H' → Q (.bl true) H'
theorem own_has {C x : Addr} {neg : Bool} {z : Int} {p : List Int} {H : Hp} {Q : VK} {E : XK} (px : PupAt C H x p) (k : Q (.bl (if neg then !decide (z ∈ norm p) else decide (z ∈ norm p))) H) : rOwnIn C (spHas C) E neg (.int z) (.ref x) H Q := by
  obtain ⟨dx, t, hx, _⟩ := id px
  exact ⟨x, dx, _, rfl, hx, x, p, z, rfl, px, _, rfl, k⟩
theorem own_len {C x : Addr} {p : List Int} {H : Hp} {Q : VK} {E : XK} (px : PupAt C H x p) (k : Q (.int ((norm p).length : Nat)) H) : rOwnLen C (spLen C) E [.ref x] H Q := by
  obtain ⟨dx, t, hx, _⟩ := id px
  have := norm_len p
  exact ⟨x, dx, _, rfl, hx, x, p, rfl, px, _, rfl, by omega, by omega, k⟩
theorem le_listW (l m : List Int) : fLe (norm l) (norm m) = decide ((norm l).filter (fun x => !decide (x ∈ norm m)) = []) := by
  have := le_within (m := norm m) (qn_norm l)
  rw [norm_norm, norm_norm] at this
  exact this
theorem dpAll_bls {K : PySem.W.Frag} {H : Hp} : ∀ bs : List Bool, DpAll K H (bs.map V.bl) (bs.map PyData.bool)
  | [] => .nil
  | n :: r => .cons (.bl n) (dpAll_bls r)
theorem canLay_bls : ∀ ns : List Bool, PyData.canLayAll0 (ns.map PyData.bool) = true
  | [] => by rw [List.map_nil, PyData.canLayAll0]
  | n :: r => by
    rw [List.map_cons, PyData.canLayAll0, canLay_bls r]
    rfl
theorem depth_bls : ∀ ns : List Bool, PyData.depthAll (ns.map PyData.bool) = 0
  | [] => by rw [List.map_nil, PyData.depthAll]
  | n :: r => by
    rw [List.map_cons, PyData.depthAll, depth_bls r]
    rfl
theorem shB (ns : List Bool) : SeqAt.shaped (.list (ns.map PyData.bool)) = true := by
  simp [SeqAt.shaped, PyData.canLay0, canLay_bls, PyData.depth, depth_bls]
theorem evAll_bls : ∀ ns : List Bool, PyData.eqvAll (ns.map PyData.bool) (ns.map PyData.bool) = true
  | [] => by rw [List.map_nil, PyData.eqvAll]
  | n :: r => by
    rw [List.map_cons, PyData.eqvAll, evAll_bls r]
    cases n <;> simp [PyData.eqv]
theorem neD_bls {K : PySem.W.Frag} {H : Hp} {a b : Addr} {ns : List Bool} {Q : VK} (h1 : SqL K H a (ns.map V.bl)) (h2 : SqL K H b (ns.map V.bl)) (q : Q (.bl false) H) : rNeD K (.ref a) (.ref b) H Q :=
  ⟨_, _, .lst h1 (dpAll_bls ns), .lst h2 (dpAll_bls ns), shB ns, shB ns, by rw [PyData.eqv, evAll_bls]; exact q⟩
theorem take_get {α : Type} {l : List α} {i : Nat} {x : α} (h : l[i]? = some x) : l.take (i + 1) = l.take i ++ [x] := by
  rw [List.take_add_one, h]
  rfl
end L2

namespace L2
open PySem PySem.Spec PyProof.Rows
/-! ## own errors whose __init__ calls the base's by the base's name -/
/-- what the base class B says of B.__init__ -/
structure BaseI (K : PySem.W.Frag) (B : Addr) : Prop where
  ga : PySem.W.specialIn K (.ref B) "__getattribute__" = some (some (.builtin "type.__getattribute__"))
  ty : PySem.W.typeIn K (.ref B) = some (.type "type")
  rd : PySem.W.readsIn K B (.type "type") = true
  fi : PySem.W.findCls K (.ref B) (.type "type") "__init__" = some (.val (.builtin "ValueError.__init__"))
section
variable {X : Cx} {o e : Expr} {es : List Expr} {to te : TE} {ta : TA} {f x : Str} {p p' p1 p2 pos : Pos} {B : Addr}
theorem pe_binit {pl : Sem Bool} (T : BaseI X.K B) (hg : Gl X x) (hm : X.mg x = some (.ref B)) (ha : PA X (e :: es) ta) (hdb : (x == ("__debug__" : Str)) = false := by decide)
    (hc : eval (.Call (.Attribute (.Name x p1) "__init__" p2) (e :: es) [] pos) X.env = (do
      let ov ← eval (.Name x p1) X.env
      standAt p2.atName
      let (f, first) ← holding [ov] (getMethod ov "__init__" pl)
      callWith pos f first (backTo pos (starEach (e :: es) X.env)) (backToKw pos (keywordEach [] X.env))) := by rfl)
    (he : starEach (e :: es) X.env = (false, eval e X.env) :: starEach es X.env := by rfl) (hpl : (backTo pos (starEach es X.env)).any (·.1) = false := by rfl) :
    PE X (.Call (.Attribute (.Name x p1) "__init__" p2) (e :: es) [] pos) (tVeI X.K ta) := by
  refine ⟨fun pins s σ H Q I h => ?_⟩
  refine PySem.W.methodCall_KW (ld_glob I hg hm ?_ hdb) hc
  obtain ⟨m, fr⟩ := I.fr
  refine PySem.W.method_of_cls fr I.ok.mod.kin T.ga (PySem.W.cls_val fr I.ok.mod.kin T.ty T.rd T.fi (by decide +kernel) ?_)
  show wpAny _ _ (callWith pos (Value.builtin "ValueError.__init__") [] (backTo pos (starEach (e :: es) X.env)) []) _ _ _
  refine callWith_method1 (thn (ha.run pos pins _ σ H _ (I.tok _) h) fun us s1 ⟨vs, H1, I1, r1, a, C, ws, ev, hl, T, ea, q⟩ => ?_) he hpl
  subst ev
  cases r1 with
  | @cons _ u0 _ ur ra rw' =>
    obtain rfl : u0 = Value.ref a := ra
    exact oinit_ok T I1 ea (by rw [← Paired.length rw', sizeLine_eq]; omega) fun s' J => ⟨.non, H1, J, rfl, q⟩
end
/-! ## a class made, a method called, where what is raised is wished for at the slots -/
section
variable {X : Cx} {CX : CXT} {k : Nat} {f C : Addr} {fd : FuncData} {ps : List Str} {sp : Sp} {E : St → XK} {x m : Str} {p pos apos : Pos} {e o : Expr} {es : List Expr} {ta : TE} {t : TA}
def tMakeS (C : Addr) (sp : Sp) (E : St → XK) (t : TA) : TE := fun σ H Q => t σ H fun vs H1 => ∀ x dx, H1 x = none → H1 dx = none → dx ≠ x →
  sp (.ref x :: vs) (upd (upd H1 dx (.own x)) x (.ins C dx [])) (fun v H2 => v = .non ∧ Q (.ref x) H2) (E σ)
theorem run_makeS {pins : List (Addr × Obj)} {σ : St} {H : Hp} {s : Shared} {Q : VK} {us : List Value} {vs : List V} (M : Mk X.K C f) (F : FnOk X.prog X.w X.K X.mg X.base CX k f fd ps sp) (hr : Room (k + 1) X.A) (hb : Binds X.K fd ps [])
    (hx : PassesAt CX X σ (E σ)) (I : Inv X pins σ H s) (r : Vals vs us)
    (h : ∀ x dx, H x = none → H dx = none → dx ≠ x → sp (.ref x :: vs) (upd (upd H dx (.own x)) x (.ins C dx [])) (fun v H2 => v = .non ∧ Q (.ref x) H2) (E σ)) : wpAny (model X.prog X.w) X.A (call (.ref C) us) (EP X pins σ Q) X.xe s := by
  let n := s.heap.objs.size
  have want := h (n + 1) n (I.hok.fresh (Nat.le_succ n)) (I.hok.fresh (Nat.le_refl n)) (Nat.ne_of_lt (Nat.lt_succ_self n))
  have J := Inv.made (C := C) I
  have rr : Vals (V.ref (n + 1) :: vs) (Value.ref (n + 1) :: us) := Paired.cons rfl r
  have len : (Value.ref (n + 1) :: us).length = ps.length := rr.length.symm.trans (F.len _ _ _ _ want)
  have bnd := hb _ (Value.ref (n + 1) :: us) J.kIn (by rw [List.append_nil]; exact len)
  rw [List.append_nil] at bnd
  have body := F.run _ X.stack _ _ ⟨Value.ref (n + 1) :: us, []⟩ (Value.ref (n + 1) :: us) _ _ (E σ) (hr.make C us []) (J.env0.make C us []) bnd rr want
  refine wpAny_call (make_map (f := f) I.kIn M.makes M.init (beq_iff_eq.mp M.fn) (codeAny_mono body fun res s' hq => ?_))
  match res, hq with
  | .error er, hq => exact hx pins _ _ er s' J hq
  | .ok (.ret u), hq =>
    obtain ⟨v, H', I3, rv, ev, q3⟩ := J.after hq
    subst ev
    exact ⟨rv, V.ref (n + 1), H', I3, rfl, q3⟩
  | .ok .next, hq => exact hq.elim
  | .ok .brk, hq => exact hq.elim
  | .ok .cont, hq => exact hq.elim
theorem pe_makeS (M : Mk X.K C f) (F : FnOk X.prog X.w X.K X.mg X.base CX k f fd ps sp) (hr : Room (k + 1) X.A) (hg : Gl X x) (hm : X.mg x = some (.ref C)) (hb : Binds X.K fd ps []) (hx : ∀ σ, PassesAt CX X σ (E σ))
    (ha : PA X (e :: es) t) (hdb : (x == ("__debug__" : Str)) = false := by decide) (he : starEach (e :: es) X.env = (false, eval e X.env) :: starEach es X.env := by rfl) (hpl : (backTo pos (starEach es X.env)).any (·.1) = false := by rfl) :
    PE X (.Call (.Name x p) (e :: es) [] pos) (tMakeS C sp E t) :=
  ⟨fun pins s σ H Q I h => wpAny_Call_Name_kw (ld_glob I hg hm
    (PySem.W.callWith_K (h₀ := X.base) I.ok.mod.kin M.kp (thn (ha.run pos pins s σ H _ I h) fun us s1 ⟨vs, H1, I1, r, q⟩ => ⟨I1.kIn, run_makeS M F hr hb (hx σ) I1 r q⟩) he hpl) hdb)⟩
/-- o.m(e, ..), what is raised wished for at the slots -/
def tMethT (C : Addr) (m : Str) (sp : Sp) (E : St → XK) (ta : TE) (t : TA) : TE := fun σ H Q => ta σ H fun x H1 => ∃ a dx fs, x = .ref a ∧ H1 a = some (.ins C dx fs) ∧ fs.lookup m = none ∧ t σ H1 fun vs H2 => sp (.ref a :: vs) H2 Q (E σ)
theorem pe_methT {pl : Sem Bool} (ho : PE X o ta) (c : Cls X.K C) (hm : Meth X.K C m f) (F : FnOk X.prog X.w X.K X.mg X.base CX k f fd ps sp) (hr : Room k X.A) (hb : Binds X.K fd ps []) (hx : ∀ σ, PassesAt CX X σ (E σ)) (ha : PA X (e :: es) t)
    (hst : starEach (e :: es) X.env = (false, eval e X.env) :: starEach es X.env := by rfl) (hpl : (backTo pos (starEach es X.env)).any (·.1) = false := by rfl)
    (ht : eval (.Call (.Attribute o m apos) (e :: es) [] pos) X.env = (eval o X.env >>= fun ov => standAt apos.atName >>= fun _ => holding [ov] (getMethod ov m pl) >>= fun ff =>
      callWith pos ff.1 ff.2 (backTo pos (starEach (e :: es) X.env)) (backToKw pos (keywordEach [] X.env))) := by rfl) :
    PE X (.Call (.Attribute o m apos) (e :: es) [] pos) (tMethT C m sp E ta t) := by
  refine ⟨fun pins s σ H Q I h => ?_⟩
  refine PySem.W.methodCall_KW (pl := pl) (thn (ho.run pins s σ H _ I h) fun u s1 hh => ?_) ht
  obtain ⟨x, H1, I1, rx, a, dx, fs, ex, ea, l, q⟩ := hh
  subst ex
  cases rx
  refine getmeth_ok I1 ea c hm l (PySem.W.callWith_K (first := [.ref a]) (h₀ := X.base) I.ok.mod.kin hm.kp (thn (ha.run pos pins s1 σ H1 _ I1 q) fun us s2 ⟨vs, H2, I2, r, q2⟩ => ⟨I2.kIn, ?_⟩) hst hpl)
  exact run_fnS (us := .ref a :: us) (vs := .ref a :: vs) F hr hb (hx σ) I2 (.cons rfl r) q2
end
/-! ## an error is made and raised: its dict d holds its one field -/
/-- X.__init__(self, v): the base's __init__, then self.f = v -/
def spErr (C : Addr) (f : Str) (ok : V → Prop) : Sp := fun vs H Q _ => ∃ (a : Addr) (v : V), vs = [.ref a, v] ∧ ok v ∧ H a = some (exo a C none) ∧
  ∀ dx, H dx = none → dx ≠ a → Q .non (upd (upd H dx (exd dx [(f, v)])) a (exo a C (some dx)))
def okInt (v : V) : Prop := ∃ i : Int, v = .int i ∧ i.natAbs.log2 < 1920
theorem err_make {C : Addr} {f : Str} {ok : V → Prop} {v : V} {H : Hp} {W : Value → Option Addr → Hp → Prop} {E : XK} (hv : ok v) (k : ∀ d, H d = none → W (.ref C) (some d) (upd H d (.xd [(f, v)]))) :
    [v].length ≤ 1000 ∧ ∀ a, H a = none → spErr C f ok (.ref a :: ([v] ++ [])) (upd H a (exo a C none))
      (fun u H2 => u = .non ∧ ∃ (d : Addr) (fs : List (Str × V)), H2 a = some (exo a C (some d)) ∧ H2 d = some (exd d fs) ∧ H d = none ∧ W (.ref C) (some d) (upd (del H2 a) d (.xd fs))) E := by
  refine ⟨by show 1 ≤ 1000; decide, fun a na => ⟨a, v, rfl, hv, upd_same, fun dx ndx ne => ⟨rfl, dx, [(f, v)], upd_same, ?_, ?_, ?_⟩⟩⟩
  · rw [upd_ne ne, upd_same]
  · rw [upd_ne ne] at ndx
    exact ndx
  · rw [upd_ne ne] at ndx
    have e : upd (del (upd (upd (upd H a (exo a C none)) dx (exd dx [(f, v)])) a (exo a C (some dx))) a) dx (.xd [(f, v)]) = upd H dx (.xd [(f, v)]) := by
      funext b
      by_cases hb : b = dx
      · subst hb
        rw [upd_same, upd_same]
      · rw [upd_ne hb, upd_ne hb]
        by_cases ha : b = a
        · subst ha
          rw [del_same, na]
        · rw [del_ne ha, upd_ne ha, upd_ne hb, upd_ne ha]
    rw [e]
    exact k dx ndx
end L2
namespace PySem.W
open PySem PySem.Spec PySem.Calls PyProof.Rows
section
variable {prog : Program} {w : World} {A : Around} {E : Value → Shared → Prop} {s : Shared} {K : Frag} {x D : Addr} {ox : Obj} {od : Option Obj}
/-- what the class of an error says of __class__ and of its own getter -/
structure ErrK (K : Frag) (D : Addr) : Prop where
  ga : findIn K (.ref D) "__getattribute__" = some (some (.builtin "BaseException.__getattribute__"))
  gg : findIn K (.ref D) "__getattr__" = some none
  sb : subIn K (.ref D) (.type "BaseException") = some true
  hd : hasDictIn K D = true
  cl : findIn K (.ref D) "__class__" = some (some (.builtin "object.__class__"))
  gt : specialIn K (.builtin "object.__class__") "__get__" = some (some (.builtin "getset_descriptor.__get__"))
  tk : takesIn K (.builtin "object.__class__") = some true
  mr : mroIn K D (.type "object") = some true
/-- e.__class__ of an error, with a dict of its own or without -/
theorem err_cls {Q : Option Value → Shared → Prop} (Z : ErrK K D) (X : K.In s.heap) (I : InstAt s.heap x ox D od) (h : Q (some (.ref D)) { s with toks := s.toks + 1 }) : wpAny (model prog w) A (getAttr? (.ref x) "__class__") Q E s := by
  have found : findObj K D od "__class__" = some (.bind (.builtin "getset_descriptor.__get__") (.builtin "object.__class__")) := by
    obtain ⟨cd, hc, _⟩ := any_some Z.hd
    unfold findObj
    rw [hc, Option.bind_some, Z.cl, Option.bind_some]
    simp [Z.gt, Z.tk]
  rcases s with ⟨hp, gs, dr, tk, os⟩
  have la := I.type (M := model prog w); have lb := looks_findIn (M := model prog w) X Z.ga; have lc := looks_findIn (M := model prog w) X Z.gg; have ld := looks_find (M := model prog w) X I found
  have isB : Looks (model prog w) hp (isInstance (.ref x) (.type "BaseException")) true := la.andThen (looks_subIn X Z.sb)
  have n2 : (Value.builtin "BaseException.__getattribute__" == Value.builtin "object.__getattribute__") = false := by decide +kernel
  have n1 : (onTheHeap (Value.ref D) && Value.builtin "BaseException.__getattribute__" == Value.builtin "object.__getattribute__") = false := by rw [n2, Bool.and_false]
  unfold getAttr? getAttrBy? getAttrBy
  refine wpAny_bind (wpAny_mkText (wpAny_bind (wpAny_attempt (wpAny_holding (wpAny_bind (la.at (wpAny_bind (lb.at (?_ : wpAny _ _ (if (onTheHeap (Value.ref D) && Value.builtin "BaseException.__getattribute__" == Value.builtin "object.__getattribute__") = true then _ else _) _ _ _)))))))))
  rw [n1, if_neg Bool.false_ne_true]
  unfold getAttrByItsOwn hookBefore
  refine wpAny_bind (?_ : wpAny _ _ (if onTheHeap (Value.ref D) = true then _ else _) _ _ _)
  have oh : onTheHeap (Value.ref D) = true := rfl
  rw [if_pos oh]
  refine lc.at (wpAny_bind (wpAny_attempt (wpAny_holding ?_)))
  unfold callGetattribute
  rw [show (false && onTheHeap (Value.builtin "BaseException.__getattribute__")) = false from rfl, if_neg Bool.false_ne_true]
  unfold boundAndCalled
  rw [PySem.F.excAttr_ValueError.ga.bind (.ref x)]
  refine wpAny_bind (wpAny_pure (?_ : wpAny _ _ (call (.builtin "BaseException.__getattribute__") [.ref x, .str "__class__" tk]) _ _ _))
  refine wpAny_call (codeAny_call_builtin PySem.F.excAttr_ValueError.ga.plain PySem.F.entry_bexc_ga (@check_slot (model prog w) _ _ ⟨hp, gs, dr, tk + 1, os⟩ "BaseException.__getattribute__" "BaseException" "__getattribute__" (.ref x) [.str "__class__" tk] [] _ (by decide +kernel) (by decide +kernel) isB (PySem.F.args_bexc_ga (.ref x) (.str "__class__" tk)) ?_))
  unfold Builtin.«object.__getattribute__»
  refine wpAny_bind (wpAny_of_eq (a := ((Value.ref x : Value), [Value.str "__class__" tk])) (by first | rfl | (simp only [slotArgs]; rfl)) (wpAny_bind (wpAny_pure (wpAny_bind (la.at (wpAny_bind (ld.at ?_)))))))
  refine (?_ : wpAny _ _ (holding [Value.builtin "object.__class__"] (call (.builtin "getset_descriptor.__get__") [.builtin "object.__class__", .ref x, .ref D]) >>= ret) _ _ _)
  refine wpAny_bind (wpAny_holding (wpAny_call (class_get (s := ⟨hp, gs, dr, tk + 1, os⟩) (ox := ox) (od := od) X I Z.mr (wpAny_pure (?_ : wpAny _ _ (handedOut (.ref D)) _ _ _)))))
  rw [handedOut_of (v := .ref D) rfl]
  first
    | exact wpAny_pure (wpAny_pure h)
    | exact wpAny_pure h
    | exact wpAny_pure (wpAny_bind (wpAny_pure (wpAny_pure h)))
theorem err_kit (Z : ErrK K D) : KitX K (.ref x) (.ref D) (fun h => ∃ ox od, InstAt h x ox D od) := by
  have own : ∃ c' d' cd' sl', K.lookup D = some ⟨c', d', .cls cd', sl'⟩ := by
    obtain ⟨cd, hc, _⟩ := any_some Z.hd
    unfold clsIn at hc
    split at hc
    · rename_i c' d' cd' sl' ho
      exact ⟨_, _, _, _, ho⟩
    · cases hc
  obtain ⟨c', d', cd', sl', ho⟩ := own
  refine ⟨fun _ _ _ ⟨_, _, I⟩ => I.type, fun _ _ X _ A' Q' E' s' k q => ?_, fun h tp dd its n sl X htp => Bool.eq_false_iff.mpr fun q => ?_, fun X ⟨_, _, I⟩ k => err_cls Z X I k⟩
  · unfold isType loadHead
    exact wpAny_bind (wpAny_loadPart (k _ _ (X _ _ ho)) (wpAny_pure q))
  · have e : D = tp := Value.ref.inj (beq_iff_eq.mp q)
    subst e
    have z := (X _ _ ho).symm.trans htp
    cases z
end
end PySem.W
namespace L2
open PySem PySem.Spec PyProof.Rows
/-- isinstance(e, c), e the error that the suite holds, with a dict of its own at d -/
def rIsD (K : PySem.W.Frag) (cls : Value) (d : Option Addr) (a : Addr) : List V → Hp → VK → Prop := fun xs H Q => ∃ (D dd : Addr) (fs : List (Str × V)) (c : V) (cv : Value) (b : Bool), cls = .ref D ∧ d = some dd ∧ H dd = some (.xd fs) ∧ PySem.W.ErrK K D ∧ xs = [.ref a, c] ∧ ClsV c cv ∧ PySem.W.kitOne K (.ref D) cv = some b ∧ Q (.bl b) H
theorem call_isD {X : Cx} {a : Addr} {oe : Obj} {cls : Value} {d : Option Addr} {pn : List (Addr × Obj)} (hz : Zc cls d oe) (hf : ∃ vs, oe.data = .fields vs) : CallR (X.suite a ((a, oe) :: pn)) (.builtin "isinstance") (rIsD X.K cls d a) := by
  intro pins s σ H xs us Q I r h
  obtain ⟨D, dd, fs, c, cv, b, rfl, rfl, hdd, Z, rfl, hc, e, q⟩ := h
  cases r with
  | cons rx rr =>
    cases rr with
    | cons rt rr =>
      cases rr
      cases rx
      obtain rfl := hc.eq rt
      obtain ⟨hget, _⟩ := I.pin (a, oe) (List.mem_append.mpr (.inl List.mem_cons_self))
      obtain ⟨vs, hv⟩ := hf
      have hx : ObjOk X.prog X.w H s.heap dd (.xd fs) := I.hok dd _ hdd
      obtain ⟨mA, hns, _⟩ := hx
      obtain ⟨od, ho, _⟩ := lookIn_ns hns
      have J : PySem.W.InstAt s.heap a oe D (some od) := ⟨hget, hz.1, by unfold PySem.W.notCls; rw [hv] <;> rfl, by rw [hz.2]; exact ho⟩
      exact PySem.W.kia_one (PySem.W.err_kit Z) I.kIn ⟨oe, some od, J⟩ e (fun z => nomatch z) fun tk => ⟨.bl b, H, I.kept (t' := tk) fun _ _ z => z, rfl, q⟩
end L2

namespace L2
open PySem PySem.Spec PyProof.Rows
/-! ## how long the words of an error are -/
theorem len_nat {n k : Nat} (hk : 0 < k) (h : n < 10 ^ k) : (Nat.repr n).toList.length ≤ k := by
  unfold Nat.repr
  rw [String.toList_ofList]
  exact (Nat.length_toDigits_le_iff (by decide) hk).mpr h
theorem len_toString {i : Int} {k : Nat} (hk : 0 < k) (h : i.natAbs < 10 ^ k) : (toString i).toList.length ≤ k + 1 := by
  show (Int.repr i).toList.length ≤ k + 1
  unfold Int.repr
  cases i with
  | ofNat m => exact Nat.le_succ_of_le (len_nat hk h)
  | negSucc m =>
    show ("-" ++ Nat.repr (m + 1)).toList.length ≤ k + 1
    rw [String.toList_append, List.length_append]
    have := len_nat hk (show m + 1 < 10 ^ k from h)
    show 1 + _ ≤ _
    omega
theorem len_app (a b : PySem.Str) : (a ++ b).length = a.length + b.length := by
  have e1 : (a ++ b).cps.toList.length = (a ++ b).length := Array.length_toList
  have e2 : a.cps.toList.length = a.length := Array.length_toList
  have e3 : b.cps.toList.length = b.length := Array.length_toList
  rw [PySem.W.KT.app_list, List.length_append, e2, e3] at e1
  exact e1.symm
/-- a number that an error may carry -/
def Bd (i : Int) : Prop := i.natAbs < 2 ^ 400
theorem Bd.log {i : Int} (h : Bd i) : i.natAbs.log2 < 1920 := by
  by_cases h0 : i.natAbs = 0
  · rw [h0]; decide
  · exact (Nat.log2_lt h0).mpr (Nat.lt_of_lt_of_le h (Nat.pow_le_pow_right (by decide) (by decide)))
theorem Bd.len {i : Int} (h : Bd i) : (PySem.Str.ofString (toString i)).length ≤ 200 := by
  rw [PySem.ofString_length]
  exact Nat.le_trans (len_toString (k := 150) (by decide) (Nat.lt_of_lt_of_le h (by decide +kernel))) (by decide)
def okB (v : V) : Prop := ∃ i : Int, v = .int i ∧ Bd i
/-! ## a pupil made of questions of which some may be none -/
def firstBad (l : List Int) : Option Int := l.find? fun k => !decide (0 ≤ k ∧ k < 48)
theorem first_of : ∀ {l : List Int} {i : Nat} {z : Int}, l[i]? = some z → (∀ y ∈ l.take i, 0 ≤ y ∧ y < 48) → ¬ (0 ≤ z ∧ z < 48) → firstBad l = some z
  | [], i, z, h, _, _ => by simp at h
  | y :: r, 0, z, h, _, hz => by
    have e : y = z := Option.some.inj h
    subst e
    unfold firstBad
    rw [List.find?_cons, decide_eq_false hz]
    rfl
  | y :: r, i + 1, z, h, hp, hz => by
    have hy := hp y (by rw [List.take_succ_cons]; exact List.mem_cons_self)
    have := first_of (l := r) (i := i) (z := z) h (fun u hu => hp u (by rw [List.take_succ_cons]; exact List.mem_cons_of_mem _ hu)) hz
    unfold firstBad at this ⊢
    rw [List.find?_cons, decide_eq_true hy]
    exact this
theorem first_none {l : List Int} (h : Qn l) : firstBad l = none := by
  unfold firstBad
  rw [List.find?_eq_none]
  intro x hx
  rw [decide_eq_true (h x hx)]
  decide
def spInitX (K : PySem.W.Frag) (C CB : Addr) : Sp := fun vs H Q E => ∃ (x dx q : Addr) (l : List Int), vs = [.ref x, .ref q] ∧ H x = some (.ins C dx []) ∧ SqA K H q (l.map V.int) ∧ l.length ≤ 500 ∧ (∀ z ∈ l, Bd z) ∧
  (Qn l → ∀ H' t, H' x = some (.ins C dx [("rights", .ref t)]) → H' t = some (.tup ((norm l).map V.int)) → (∀ b o, b ≠ x → H b = some o → H' b = some o) → Q .non H') ∧
  ∀ z, firstBad l = some z → ∀ d H', H d = none → Same H H' → H' d = some (.xd [("number", .int z)]) → E (.ref CB) (some d) H'
theorem pupX_make {K : PySem.W.Frag} {C CB q : Addr} {H : Hp} {l : List Int} {R : Addr → Hp → Prop} {E : XK} (hq : SqA K H q (l.map V.int)) (hl : l.length ≤ 500) (hb : ∀ z ∈ l, Bd z) (k : Qn l → ∀ x H', H x = none → Same H H' → PupAt C H' x l → R x H')
    (kx : ∀ z, firstBad l = some z → ∀ d H', H d = none → Same H H' → H' d = some (.xd [("number", .int z)]) → E (.ref CB) (some d) H') :
    ∀ x dx, H x = none → H dx = none → dx ≠ x → spInitX K C CB [.ref x, .ref q] (upd (upd H dx (.own x)) x (.ins C dx [])) (fun v H2 => v = .non ∧ R x H2) E := by
  intro x dx nx ndx ne
  have s0 : Same H (upd (upd H dx (.own x)) x (.ins C dx [])) := (same_upd ndx).mut nx
  refine ⟨x, dx, q, l, rfl, upd_same, hq.same s0, hl, hb, fun hn H' t h1 h2 h3 => ⟨rfl, k hn x H' nx (fun b o e => ?_) ⟨dx, t, h1, h2⟩⟩, fun z hz d H' nd e h => kx z hz d H' (s0.free nd) (s0.trans e) h⟩
  exact h3 b o (ne_of_none e nx) (s0 b o e)
/-- where all are questions nothing is raised -/
theorem pupX_good {K : PySem.W.Frag} {C CB q : Addr} {H : Hp} {l : List Int} {R : Addr → Hp → Prop} {E : XK} (hq : SqA K H q (l.map V.int)) (hl : l.length ≤ 500) (hn : Qn l) (k : ∀ x H', H x = none → Same H H' → PupAt C H' x l → R x H') :
    ∀ x dx, H x = none → H dx = none → dx ≠ x → spInitX K C CB [.ref x, .ref q] (upd (upd H dx (.own x)) x (.ins C dx [])) (fun v H2 => v = .non ∧ R x H2) E :=
  pupX_make hq hl (fun z hz => by have := hn z hz; unfold Bd; have : z.natAbs < 48 := by omega
                                  exact Nat.lt_trans this (by decide +kernel)) (fun _ => k) fun z hz => by rw [first_none hn] at hz; cases hz
def spAddedX (C CB : Addr) : Sp := fun vs H Q E => ∃ (a : Addr) (p : List Int) (z : Int), vs = [.ref a, .int z] ∧ PupAt C H a p ∧ Bd z ∧
  ((0 ≤ z ∧ z < 48) → ∀ x H', H x = none → Same H H' → PupAt C H' x (p ++ [z]) → Q (.ref x) H') ∧
  (¬ (0 ≤ z ∧ z < 48) → ∀ d H', H d = none → Same H H' → H' d = some (.xd [("number", .int z)]) → E (.ref CB) (some d) H')
theorem Bd.small {z : Int} (h0 : -1000 ≤ z) (h1 : z < 1000) : Bd z := by
  unfold Bd
  have : z.natAbs < 1001 := by omega
  exact Nat.lt_trans this (by decide +kernel)
theorem kit_sub {K : PySem.W.Frag} {C B : Addr} (h : PySem.W.subIn K (.ref C) (.ref B) = some true) (h2 : PySem.W.isClsIn K B = true) (h3 : PySem.W.typeIn K (.ref B) = some (.type "type")) : PySem.W.kitOne K (.ref C) (.ref B) = some true := by
  unfold PySem.W.kitOne
  split
  · rfl
  · show (if ((PySem.W.clsIn K B).isSome && PySem.W.typeIn K (.ref B) == some (.type "type")) = true then PySem.W.subIn K (.ref C) (.ref B) else none) = some true
    rw [show (PySem.W.clsIn K B).isSome = true from h2, h3, h]
    rfl
end L2

namespace L2
open PySem PySem.Spec PyProof.Rows
/-! ## an object of an own class made by C(e, .., k=v) -/
section
variable {X : Cx} {CX : CXT} {k n : Nat} {f C : Addr} {fd : FuncData} {ps ks : List Str} {sp : Sp} {E : St → XK} {x : Str} {p pos : Pos} {e : Expr} {es : List Expr} {kws : List Keyword} {t tk : TA} {g : List Value → List Value → List Value} {gV : List V → List V → List V}
def tMakeN (C : Addr) (n m : Nat) (sp : Sp) (gV : List V → List V → List V) (E : St → XK) (t tk : TA) : TE := fun σ H Q => t σ H fun vs H1 => tk σ H1 fun zs H2 => vs.length + 1 = n ∧ zs.length = m ∧ ∀ x dx, H2 x = none → H2 dx = none → dx ≠ x →
  sp (gV (.ref x :: vs) zs) (upd (upd H2 dx (.own x)) x (.ins C dx [])) (fun v H3 => v = .non ∧ Q (.ref x) H3) (E σ)
theorem run_makeN {pins : List (Addr × Obj)} {σ : St} {H : Hp} {s : Shared} {Q : VK} {us ws : List Value} {vs zs : List V} (M : Mk X.K C f) (F : FnOk X.prog X.w X.K X.mg X.base CX k f fd ps sp) (hr : Room (k + 1) X.A) (hb : KBn X.K fd ps n ks g gV)
    (hx : PassesAt CX X σ (E σ)) (I : Inv X pins σ H s) (r : Vals vs us) (rz : Vals zs ws) (hn : vs.length + 1 = n) (hz : zs.length = ks.length)
    (h : ∀ x dx, H x = none → H dx = none → dx ≠ x → sp (gV (.ref x :: vs) zs) (upd (upd H dx (.own x)) x (.ins C dx [])) (fun v H2 => v = .non ∧ Q (.ref x) H2) (E σ)) : wpAny (model X.prog X.w) X.A (call (.ref C) us (ks.zip ws)) (EP X pins σ Q) X.xe s := by
  let n0 := s.heap.objs.size
  have want := h (n0 + 1) n0 (I.hok.fresh (Nat.le_succ n0)) (I.hok.fresh (Nat.le_refl n0)) (Nat.ne_of_lt (Nat.lt_succ_self n0))
  have J := Inv.made (C := C) I
  have rr : Vals (V.ref (n0 + 1) :: vs) (Value.ref (n0 + 1) :: us) := Paired.cons rfl r
  have bnd := hb.to _ (Value.ref (n0 + 1) :: us) ws J.kIn (by rw [← rr.length]; exact hn) (by rw [← rz.length]; exact hz)
  have body := F.run _ X.stack _ _ ⟨Value.ref (n0 + 1) :: us, ks.zip ws⟩ (g (Value.ref (n0 + 1) :: us) ws) _ _ (E σ) (hr.make C us (ks.zip ws)) (J.env0.make C us (ks.zip ws)) bnd (hb.rel rr rz) want
  refine wpAny_call (make_map (f := f) I.kIn M.makes M.init (beq_iff_eq.mp M.fn) (codeAny_mono body fun res s' hq => ?_))
  match res, hq with
  | .error er, hq => exact hx pins _ _ er s' J hq
  | .ok (.ret u), hq =>
    obtain ⟨v, H', I3, rv, ev, q3⟩ := J.after hq
    subst ev
    exact ⟨rv, V.ref (n0 + 1), H', I3, rfl, q3⟩
  | .ok .next, hq => exact hq.elim
  | .ok .brk, hq => exact hq.elim
  | .ok .cont, hq => exact hq.elim
theorem pe_makeN (M : Mk X.K C f) (F : FnOk X.prog X.w X.K X.mg X.base CX k f fd ps sp) (hr : Room (k + 1) X.A) (hg : Gl X x) (hm : X.mg x = some (.ref C)) (hb : KBn X.K fd ps n ks g gV) (hx : ∀ σ, PassesAt CX X σ (E σ))
    (ha : PA X (e :: es) t) (hk : PK X kws tk) (h1 : ((backToKw pos (keywordEach kws X.env)).all fun x => x.fst.isSome) = true := by rfl) (h2 : List.filterMap (fun x => x.fst) (backToKw pos (keywordEach kws X.env)) = ks := by rfl)
    (hdb : (x == ("__debug__" : Str)) = false := by decide) (he : starEach (e :: es) X.env = (false, eval e X.env) :: starEach es X.env := by rfl)
    (hpl : ((((backTo pos (starEach (e :: es) X.env)).any fun x => x.fst) || (backToKw pos (keywordEach kws X.env)).any fun x => x.fst.isNone) = false) := by rfl) :
    PE X (.Call (.Name x p) (e :: es) kws pos) (tMakeN C n ks.length sp gV E t tk) := by
  refine ⟨fun pins s σ H Q I h => wpAny_Call_Name_kw (ld_glob I hg hm ?_ hdb)⟩
  refine PySem.W.callWith_KW (h₀ := X.base) I.ok.mod.kin M.kp h1 (thn (ha.run pos pins s σ H _ I h) fun us s1 hh => ?_) hpl he
  obtain ⟨vs, H1, I1, r, hq⟩ := hh
  refine thn (hk.run pos pins s1 σ H1 _ I1 hq) fun ws s2 hh => ?_
  obtain ⟨zs, H2, I2, rz, hn, hz, q⟩ := hh
  refine ⟨I2.kIn, ?_⟩
  rw [h2]
  exact run_makeN M F hr hb (hx σ) I2 r rz hn hz q
end
end L2

namespace PySem
open PySem PySem.Spec PyProof.Rows L2
theorem wp_ite {α : Type} {M : Model} {A : Around} {E : Value → Shared → Prop} {s : Shared} {Q : α → Shared → Prop} {c : Bool} {t u : Sem α} (h1 : wpAny M A t Q E s) (h2 : wpAny M A u Q E s) : wpAny M A (if c = true then t else u) Q E s := by
  cases c
  · rw [if_neg (by decide)]; exact h2
  · rw [if_pos rfl]; exact h1
theorem enumT_new (l : Addr) (items : Array Value) :
  Meets (Builtin.«enumerate.__new__» ⟨[.type "enumerate", .ref l], []⟩) fun A R s =>
    s.heap.IsTuple l items ∧ R (.ok (.ret (.ref (s.heap.push { cls := .type "tuple_iterator", data := .fields #[.ref l, .int 0 0] }).objs.size)))
      { s with heap := (s.heap.push { cls := .type "tuple_iterator", data := .fields #[.ref l, .int 0 0] }).push { cls := .type "enumerate", data := .fields #[.none, .bool false, .ref s.heap.objs.size, rawInt 0, .none, .none] } } := by
  intro prog w A R s ⟨ht, hR⟩
  have rest : ∀ b : Bool, wpAny (model prog w) A.in1 (pyIter (.ref l) >>= fun it => Builtin.SmallTypes.newRecord (.type "enumerate") (Builtin.SmallTypes.ownedTupleFields ++ [it, rawInt 0, .none, .none]) >>= fun r => ret r)
      (fun fin s' => match fin with
        | Fin.done f => R (.ok f) s'
        | Fin.again c' => Code.quiet c' = true ∧ codeAny (model prog w) A c' R s') (fun e s' => R (.error e) s') s := fun _ => by
    refine wpAny_bind (wpAny_pyIter_tuple ht (wpAny_bind ?_))
    unfold Builtin.SmallTypes.newRecord newObj
    show wpAny _ _ (if _ then _ else _) _ _ _
    rw [if_neg (by show ¬ (6 > sizeLine + 2); decide)]
    unfold newObjAsIs
    refine wpAny_bind (wpAny_alloc (wpAny_pure ?_))
    exact wpAny_pure hR
  unfold Builtin.«enumerate.__new__» Builtin.SmallTypes.newClass
  refine wpAny_bind (wpAny_of_eq (a := (Value.type "enumerate", [Value.ref l])) ?_ ?_)
  · show (isSubtype (.type "enumerate") (.type "enumerate") >>= fun b => _) = _
    rw [sub_enumerate]
    rfl
  · show wpAny _ _ (if (Value.type "enumerate" == Value.type "enumerate") = true then _ else _) _ _ _
    rw [if_pos (beq_self_eq_true _)]
    unfold Builtin.SmallTypes.calledThroughType
    refine wpAny_bind (wpAny_bind (wpAny_stack fun st _ _ _ => wpAny_pure ?_))
    refine wp_ite ?_ ?_
    · refine wpAny_bind (wpAny_of_eq (a := (Value.ref l, none)) rfl ?_)
      exact rest true
    · refine wpAny_bind (wpAny_of_eq (a := (Value.ref l, none)) rfl ?_)
      exact rest true
theorem Draws.tuple {prog : Program} {w : World} {A : Around} (hA : A.handled = none) (it l : Addr) (ne : l ≠ it) (items : Array Value) :
    PySem.Draws prog w A it [it, l] items.size (fun i v => items[i]? = some v) fun i h => h.IsTupleIter it l i ∧ h.IsTuple l items := by
  refine ⟨fun i h ⟨⟨o, ho, _⟩, _⟩ => ⟨o, ho⟩, fun i h h' ⟨a, b⟩ k => ⟨a.at (k it (by simp)), b.at (k l (by simp))⟩, fun i s Q E hi ⟨a, b⟩ k => ?_, fun s Q E ⟨a, b⟩ k => ?_⟩
  · refine RZ.nextOf_tuple_item a b (Array.getElem?_eq_getElem hi) fun h' a' sb => ?_
    exact k _ h' s.toks (Array.getElem?_eq_getElem hi) ⟨a', b.at fun o ho => by rw [sb.2 l ne]; exact ho⟩ sb
  · exact RZ.nextOf_tuple_end hA a b (by simp) fun h' e x y => k h' e x y
theorem call_enumT {prog : Program} {w : World} {A : Around} {E : Value → Shared → Prop} {s : Shared} {l : Addr} {items : Array Value} {Q : Value → Shared → Prop} (ht : s.heap.IsTuple l items)
    (h : ∀ h' : Heap, IsEnum h' (s.heap.objs.size + 1) s.heap.objs.size 0 .none → h'.IsTupleIter s.heap.objs.size l 0 → h'.objs.size = s.heap.objs.size + 2 → (∀ b o, s.heap.get? b = some o → h'.get? b = some o) → Q (.ref (s.heap.objs.size + 1)) { s with heap := h' }) :
    wpAny (model prog w) A (call (.type "enumerate") [.ref l]) Q E s := by
  have e1 : (s.heap.push { cls := .type "tuple_iterator", data := .fields #[.ref l, .int 0 0] }).objs.size = s.heap.objs.size + 1 := by rw [Heap.size_push]
  have keep : ∀ b o, s.heap.get? b = some o → ((s.heap.push { cls := .type "tuple_iterator", data := .fields #[.ref l, .int 0 0] }).push { cls := .type "enumerate", data := .fields #[.none, .bool false, .ref s.heap.objs.size, rawInt 0, .none, .none] }).get? b = some o := fun b o e => Heap.get?_push_of_some _ (Heap.get?_push_of_some _ e)
  have g1 : ((s.heap.push { cls := .type "tuple_iterator", data := .fields #[.ref l, .int 0 0] }).push { cls := .type "enumerate", data := .fields #[.none, .bool false, .ref s.heap.objs.size, rawInt 0, .none, .none] }).get? (s.heap.objs.size + 1) = some { cls := .type "enumerate", data := .fields #[.none, .bool false, .ref s.heap.objs.size, rawInt 0, .none, .none] } := by heap_get
  have g0 : ((s.heap.push { cls := .type "tuple_iterator", data := .fields #[.ref l, .int 0 0] }).push { cls := .type "enumerate", data := .fields #[.none, .bool false, .ref s.heap.objs.size, rawInt 0, .none, .none] }).get? s.heap.objs.size = some { cls := .type "tuple_iterator", data := .fields #[.ref l, .int 0 0] } := by heap_get
  refine callType_new F.called_enumerate (by decide) (F.typeCall_enumerate_1 _) (F.newCall_enumerate_1 _) ?_ F.entry_enumerate_new (enumT_new l items) ?_
  · intro obj
    exact F.args_object_init_1 obj
  · refine ⟨ht, ?_⟩
    show _ ∧ _
    refine ⟨?_, ?_⟩
    · rw [e1]
      exact ⟨_, g1, rfl⟩
    · rw [e1]
      exact h _ g1 ⟨_, g0, rfl, rfl⟩ (by rw [Heap.size_push, e1]) keep
end PySem
namespace L2
open PySem PySem.Spec PyProof.Rows
/-- enumerate over a tuple -/
def IteT (K : PySem.W.Frag) (a : Addr) : It :=
  ⟨fun i H => ∃ xs x, SqT K H a xs ∧ xs[i]? = some x, fun i H v H' => ∃ T x, v = .ref T ∧ H T = none ∧ H' = upd H T (.tup [.int (i : Nat), x]) ∧ ∀ xs, SqT K H a xs → xs[i]? = some x, fun i H => ∃ xs, SqT K H a xs ∧ xs.length = i⟩
def iEnumT (K : PySem.W.Frag) (ta : TA) : TI := fun σ H R => ta σ H fun vs H1 => ∃ a xs, vs = [.ref a] ∧ SqT K H1 a xs ∧ R (IteT K a) H1
theorem turn_enumT {P : Program} {w : World} {K : PySem.W.Frag} {elts : List Expr} {kk : Nat} {tpos : Pos} (a e it : Addr) :
    Turn P w K (.Tuple elts kk tpos) (IteT K a) [e, it] e fun i h => (∃ old, IsEnum h e it (i : Nat) old) ∧ h.IsTupleIter it a i ∧ e ≠ it := by
  refine ⟨by simp, fun i h ⟨⟨old, z⟩, ⟨o, ho, _, hd⟩, _⟩ b hb => ?_, fun i h h' ⟨⟨old, z⟩, y, ne⟩ k => ⟨⟨old, k e (by simp) _ z⟩, y.at (k it (by simp)), ne⟩, fun X hP hw hK hc i pins s σ H E I fp ⟨⟨old, z⟩, y, ne⟩ go => ?_, fun X hP hw hK hc i pins s σ H E I fp ⟨⟨old, z⟩, y, ne⟩ st => ?_, fun A i s Q E ⟨⟨old, z⟩, y, ne⟩ q => wpAny_pyIter_enum z q⟩
  · rcases List.mem_cons.mp hb with e1 | hb
    · subst e1
      exact ⟨_, z, fun v h => by cases h⟩
    · obtain rfl := List.mem_singleton.mp hb
      exact ⟨o, ho, fun v h => by rw [hd] at h; cases h⟩
  · subst hP hw hK
    obtain ⟨xs, x, hs, hx⟩ := go
    obtain ⟨its, hv, ht, hlen⟩ := I.tuple hs
    have hl := hv.length
    have hi : i < its.toArray.size := by
      have := (List.getElem?_eq_some_iff.mp hx).1
      rw [List.size_toArray]
      omega
    have ha : a ≠ it := fun q => by
      subst q
      obtain ⟨o, ho, hc, _⟩ := y
      obtain ⟨o', ho', hc', _⟩ := ht
      rw [ho] at ho'
      obtain rfl := Option.some.inj ho'
      rw [hc] at hc'
      exact absurd hc' (by decide)
    refine wpAny_pyNext_enum_itemD (Draws.tuple (A := X.A.in1) (I.ok.hd hc) it a ha its.toArray) z ⟨y, ht⟩ hi ne (by
      intro q
      rcases List.mem_cons.mp q with q | q
      · exact ne q
      · have q := List.mem_singleton.mp q
        subst q
        obtain ⟨o', ho', hc', _⟩ := ht
        rw [z] at ho'
        obtain rfl := Option.some.inj ho'
        exact absurd hc' (by show ¬ (Value.type "enumerate" = Value.type "tuple"); decide)) fun x' h' tk hx' out st' tup sz kp => ?_
    obtain ⟨u, hu, ru⟩ : ∃ u, its[i]? = some u ∧ RelV x u := paired_get hv hx
    have ex : x' = u := by
      rw [List.getElem?_toArray, hu] at hx'
      exact (Option.some.inj hx').symm
    subst ex
    have hT : H s.heap.objs.size = none := I.hok.fresh (Nat.le_refl _)
    refine ⟨_, rfl, wpAny_letOwnedTupleGo_enum out fun h2 z2 sb => ?_⟩
    have eT : s.heap.objs.size ≠ e := fun q => Nat.lt_irrefl _ (q ▸ Heap.lt_size z)
    have tup2 : h2.get? s.heap.objs.size = some { cls := .type "tuple", data := .seq #[.int (i : Nat) tk, x'] } := by rw [sb.2 _ eT]; exact tup
    have y2 : h2.IsTupleIter it a (i + 1) := st'.1.at fun o ho => by rw [sb.2 it (Ne.symm ne)]; exact ho
    refine ⟨.ref s.heap.objs.size, upd H s.heap.objs.size (.tup [.int (i : Nat), x]), ?_, rfl, ⟨_, x, rfl, hT, rfl, fun ys hy => by rw [I.tuple_inj hy hs]; exact hx⟩, ⟨⟨x', z2⟩, y2, ne⟩, fun b hb => ?_⟩
    · refine Inv.turnedNew (s := s) (ch := [e, it]) I (fun b o nb hb => ?_) fp (Nat.le_refl _) ⟨by show 2 ≤ sizeLine; decide, [.int (i : Nat) tk, x'], .cons ⟨tk, rfl⟩ (.cons ru .nil), ⟨_, tup2, rfl, _, rfl⟩⟩
      have n1 : b ≠ e := fun q => nb (by rw [q]; simp)
      have n2 : b ≠ it := fun q => nb (by rw [q]; simp)
      rw [sb.2 b n1]
      exact kp b o n1 n2 hb
    · have nb : b ≠ s.heap.objs.size := by
        rcases List.mem_cons.mp hb with q | q
        · rw [q]; exact Ne.symm eT
        · rw [List.mem_singleton.mp q]
          obtain ⟨o, ho, _⟩ := y
          exact fun q => Nat.lt_irrefl _ (q ▸ Heap.lt_size ho)
      rw [upd_ne nb]
      exact (fp b hb).1
  · subst hP hw hK
    obtain ⟨xs, hs, hl⟩ := st
    obtain ⟨its, hv, ht, hlen⟩ := I.tuple hs
    have hl2 := hv.length
    have ha : a ≠ it := fun q => by
      subst q
      obtain ⟨o, ho, hc, _⟩ := y
      obtain ⟨o', ho', hc', _⟩ := ht
      rw [ho] at ho'
      obtain rfl := Option.some.inj ho'
      rw [hc] at hc'
      exact absurd hc' (by decide)
    have en : its.toArray.size = i := by rw [List.size_toArray]; omega
    refine wpAny_pyNext_enum_endD (Draws.tuple (A := X.A.in1) (I.ok.hd hc) it a ha its.toArray) z (by rw [en]; exact ⟨y, ht⟩) fun h' eb => ⟨rfl, ?_⟩
    have f := fp it (by simp)
    exact I.turned (fun b o nb hb => eb b o nb hb) f.1 f.2.1 f.2.2.2.1 f.2.2.2.2.1 f.2.2.2.2.2
theorem pi_enumT {X : Cx} {e : Expr} {ta : TA} {p pos tpos : Pos} {elts : List Expr} {kk : Nat} (hg : Gl X "enumerate") (hm : X.mg "enumerate" = none) (ha : PA X [e] ta) (he : starEach [e] X.env = [(false, eval e X.env)] := by rfl) :
    PI X (.Tuple elts kk tpos) (.Call (.Name "enumerate" p) [e] [] pos) (iEnumT X.K ta) := by
  refine ⟨fun pins s σ H R I h => ?_⟩
  refine wpAny_Call_Name_kw (ld_blt I hg hm (u := .type "enumerate") (by decide +kernel) ?_ (by decide) (by decide))
  refine PyProof.Rows.callWith_type1 (thn (ha.run pos pins s σ H _ I h) fun us s1 hh => ?_) he rfl
  obtain ⟨vs, H1, I1, r, a, xs, ev, hs, hR⟩ := hh
  subst ev
  cases r with
  | cons ra rr =>
    cases rr
    cases ra
    obtain ⟨its, hv, ht, hlen⟩ := I1.tuple hs
    refine call_enumT ht fun h' z y sz keep => wpAny_pyIter_enum z ?_
    have n1 : s1.heap.objs.size + 1 ≠ s1.heap.objs.size := Nat.succ_ne_self _
    refine ⟨s1.heap.objs.size + 1, [s1.heap.objs.size + 1, s1.heap.objs.size], _, IteT X.K a, H1, rfl, I1.kept keep, turn_enumT a (s1.heap.objs.size + 1) s1.heap.objs.size, ⟨⟨_, z⟩, y, n1⟩, fun b hb => ?_, hR⟩
    have hle : s1.heap.objs.size ≤ b := by
      rcases List.mem_cons.mp hb with q | q
      · rw [q]; exact Nat.le_succ _
      · rw [List.mem_singleton.mp q]; exact Nat.le_refl _
    exact I1.fpOk hle (I1.hok.fresh hle)
/-- a loop over enumerate(a tuple) -/
theorem for_enumT {K : PySem.W.Frag} {a : Addr} {xs : List V} {g : TG} {tb : TS} {D : Ends} {σ : St} {H : Hp} (Pv : Nat → St → Hp → Prop) (h0 : Pv 0 σ H) (hs : ∀ i σ H, i ≤ xs.length → Pv i σ H → SqT K H a xs)
    (st : ∀ i x σ H T, xs[i]? = some x → Pv i σ H → H T = none → g (.ref T) σ (upd H T (.tup [.int (i : Nat), x])) fun σ2 H2 => tb { nx := Pv (i + 1), rt := D.rt, bk := D.nx, ct := Pv (i + 1) } σ2 H2)
    (e : ∀ σ H, Pv xs.length σ H → D.nx σ H) :
    ∃ W : Nat → Nat → St → Hp → Prop, (∃ m, W 0 m σ H) ∧ ∀ i m σ H, W i m σ H → (IteT K a).stop i H ∧ D.nx σ H ∨ (IteT K a).go i H ∧ ∃ N : St → Hp → Prop, (∀ σ' H', N σ' H' → ∃ m', m' < m ∧ W (i + 1) m' σ' H') ∧
      ∀ x H', (IteT K a).yld i H x H' → g x σ H' fun σ2 H2 => tb { nx := N, rt := D.rt, bk := D.nx, ct := N } σ2 H2 := by
  refine ⟨fun i m σ H => Pv i σ H ∧ i + m = xs.length, ⟨xs.length, h0, Nat.zero_add _⟩, fun i m σ H ⟨hp, hm⟩ => ?_⟩
  have hS := hs i σ H (by omega) hp
  by_cases hi : i < xs.length
  · refine .inr ⟨⟨xs, xs[i], hS, List.getElem?_eq_getElem hi⟩, Pv (i + 1), fun σ' H' hp' => ⟨m - 1, by omega, hp', by omega⟩, fun v H' ⟨T, x, ev, hT, eH, hx⟩ => ?_⟩
    subst ev
    subst eH
    exact st i x σ H T (hx xs hS) hp hT
  · obtain rfl : i = xs.length := by omega
    exact .inl ⟨⟨xs, hS, rfl⟩, e σ H hp⟩
end L2

namespace L2
open PySem PySem.Spec PyProof.Rows
theorem passAt0 {CX : CXT} {X : Cx} {E : XK} (h : Passes CX X E) (σ : St) : PassesAt CX X σ E := fun pins H s e s' I q => h pins σ H s e s' I q
theorem vals_app {vs zs : List V} {us ws : List Value} (h1 : Vals vs us) (h2 : Vals zs ws) : Vals (vs ++ zs) (us ++ ws) := by
  induction h1 with
  | nil => exact h2
  | cons r _ ih => exact .cons r ih
/-! ## webs -/
/-- a row: a question and two or three targets -/
def RowOk (i n : Nat) (e : Int) (row : List Int) : Prop := ∃ q r, row = q :: r ∧ (r.length = 2 ∨ r.length = 3) ∧ 0 ≤ q ∧ q < 48 ∧ ∀ t ∈ r, -e ≤ t ∧ t < n ∧ ¬ (0 ≤ t ∧ t ≤ i)
/-- nothing is asked again behind a node: A i holds the questions that may be asked from node i on -/
def Cert (rows : List (List Int)) : Prop := ∃ A : Nat → Int → Prop, ∀ i q r, rows[i]? = some (q :: r) → A i q ∧ ∀ t ∈ r, 0 ≤ t → ¬ A t.toNat q ∧ ∀ z, A t.toNat z → A i z
structure GoodW (rows : List (List Int)) (e o : Int) : Prop where
  e1 : 1 ≤ e
  e2 : e ≤ 60
  len : rows.length ≤ 400
  row : ∀ i row, rows[i]? = some row → RowOk i rows.length e row
  o1 : -e ≤ o
  o2 : o < rows.length
  cert : Cert rows
/-- the rows stand as tuples at as -/
def RowsAt (H : Hp) (as : List Addr) (rows : List (List Int)) : Prop := as.length = rows.length ∧ ∀ (i : Nat) a row, as[i]? = some a → rows[i]? = some row → H a = some (.tup (row.map V.int))
theorem RowsAt.same {H H' : Hp} {as : List Addr} {rows : List (List Int)} (e : Same H H') (h : RowsAt H as rows) : RowsAt H' as rows := ⟨h.1, fun i a row x y => e _ _ (h.2 i a row x y)⟩
theorem RowsAt.gd {H H' : Hp} {as : List Addr} {rows : List (List Int)} (e : Gd H H') (h : RowsAt H as rows) : RowsAt H' as rows := ⟨h.1, fun i a row x y => e.1 _ _ (np_tup _) (h.2 i a row x y)⟩
def WebAt (C : Addr) (H : Hp) (x : Addr) (rows : List (List Int)) (e o : Int) : Prop := ∃ dx nt as, H x = some (.ins C dx [("nodes", .ref nt), ("ends", .int e), ("start", .int o)]) ∧ H nt = some (.tup (as.map V.ref)) ∧ RowsAt H as rows
theorem WebAt.same {C : Addr} {H H' : Hp} {x : Addr} {rows : List (List Int)} {e o : Int} (s : Same H H') (h : WebAt C H x rows e o) : WebAt C H' x rows e o := by
  obtain ⟨dx, nt, as, h1, h2, h3⟩ := h
  exact ⟨dx, nt, as, s _ _ h1, s _ _ h2, h3.same s⟩
theorem WebAt.gd {C : Addr} {H H' : Hp} {x : Addr} {rows : List (List Int)} {e o : Int} (s : Gd H H') (h : WebAt C H x rows e o) : WebAt C H' x rows e o := by
  obtain ⟨dx, nt, as, h1, h2, h3⟩ := h
  exact ⟨dx, nt, as, s.1 _ _ (np_ins _ _ _) h1, s.1 _ _ (np_tup _) h2, h3.gd s⟩
/-- the row at a place -/
theorem rows_get {H : Hp} {as : List Addr} {rows : List (List Int)} (h : RowsAt H as rows) {i : Nat} (hi : i < rows.length) : ∃ a row, as[i]? = some a ∧ rows[i]? = some row ∧ H a = some (.tup (row.map V.int)) := by
  have hi2 : i < as.length := by rw [h.1]; exact hi
  exact ⟨as[i], rows[i], List.getElem?_eq_getElem hi2, List.getElem?_eq_getElem hi, h.2 i _ _ (List.getElem?_eq_getElem hi2) (List.getElem?_eq_getElem hi)⟩
/-! masks -/
def natV (m : Nat) : V := .int (m : Int)
theorem and_bit {b q : Nat} (h : b.testBit q = false) : Builtin.bitAnd (b : Int) ((2 ^ q : Nat) : Int) = 0 := by
  rw [PyProof.Rows.bitAnd_pp (Int.natCast_nonneg _) (Int.natCast_nonneg _), Int.toNat_natCast, Int.toNat_natCast]
  have : b &&& 2 ^ q = 0 := Nat.eq_of_testBit_eq fun i => by
    rw [Nat.testBit_and, Nat.testBit_two_pow, Nat.zero_testBit]
    by_cases e : q = i
    · subst e; rw [h]; rfl
    · rw [decide_eq_false e, Bool.and_false]
  rw [this]
  rfl
theorem or_nat (b m : Nat) : Builtin.bitOr (b : Int) (m : Int) = ((b ||| m : Nat) : Int) := by
  rw [Bits.bitOr_pp (Int.natCast_nonneg _) (Int.natCast_nonneg _), Int.toNat_natCast, Int.toNat_natCast]
theorem get_natV {l : List Nat} {i m : Nat} (h : l[i]? = some m) : (l.map natV)[i]? = some (.int (m : Int)) := by
  rw [List.getElem?_map, h]
  rfl
def MaskOk (A : Nat → Int → Prop) (j m : Nat) : Prop := ∀ z : Nat, m.testBit z = true → A j (z : Int)
def spTwice : Sp := fun vs H Q _ => ∃ (nt : Addr) (as : List Addr) (rows : List (List Int)) (e : Int), vs = [.ref nt] ∧ H nt = some (.tup (as.map V.ref)) ∧ RowsAt H as rows ∧ rows.length ≤ 400 ∧ (∀ i row, rows[i]? = some row → RowOk i rows.length e row) ∧ Cert rows ∧ ∀ H', Same H H' → Q .non H'
def spIn (C : Addr) : Sp := fun vs H Q _ => ∃ (x : Addr) (dx : Addr) (fs : List (Str × V)) (nt : Addr) (xs : List V) (e z : Int), vs = [.ref x, .int z] ∧ H x = some (.ins C dx fs) ∧ fs.lookup ("ends" : Str) = some (.int e) ∧ fs.lookup ("nodes" : Str) = some (.ref nt) ∧ H nt = some (.tup xs) ∧ Q (.bl (decide (-e ≤ z ∧ z < (xs.length : Nat)))) H
def spStand (C : Addr) : Sp := fun vs H Q _ => ∃ (x dx nt nd : Addr) (fs : List (Str × V)) (xs : List V) (e : Int) (k : Nat) (row : List Int), vs = [.ref x, .int k, .ref nd] ∧ H x = some (.ins C dx fs) ∧ fs.lookup ("ends" : Str) = some (.int e) ∧ fs.lookup ("nodes" : Str) = some (.ref nt) ∧ H nt = some (.tup xs) ∧ H nd = some (.tup (row.map V.int)) ∧ RowOk k xs.length e row ∧ ∀ H', Same H H' → Q (.bl true) H'
def spLenW (C : Addr) : Sp := fun vs H Q _ => ∃ (x dx nt : Addr) (fs : List (Str × V)) (xs : List V), vs = [.ref x] ∧ H x = some (.ins C dx fs) ∧ fs.lookup ("nodes" : Str) = some (.ref nt) ∧ H nt = some (.tup xs) ∧ Q (.int (xs.length : Nat)) H
def spFirst (C : Addr) : Sp := fun vs H Q _ => ∃ (x dx nt : Addr) (fs : List (Str × V)) (xs : List V), vs = [.ref x] ∧ H x = some (.ins C dx fs) ∧ fs.lookup ("nodes" : Str) = some (.ref nt) ∧ H nt = some (.tup xs) ∧ Q (.int (if xs.isEmpty then -1 else 0)) H
theorem at_tup {l : List V} {j : Nat} {v : V} (h : l[j]? = some v) : atI l (j : Int) = some v := atI_nat h
theorem cut_row (q : Int) (r : List Int) : cutV ((q :: r).map V.int) (some 1) none = r.map V.int := by
  unfold cutV HT.sIx
  simp only [List.length_map, List.length_cons]
  rw [if_neg (by decide)]
  show List.take (r.length + 1 - min 1 (r.length + 1)) (List.drop (min 1 (r.length + 1)) (V.int q :: r.map V.int)) = _
  rw [Nat.min_eq_left (Nat.succ_le_succ (Nat.zero_le _))]
  show List.take (r.length + 1 - 1) (r.map V.int) = _
  exact List.take_of_length_le (by rw [List.length_map]; omega)
/-- node[1:] of a row -/
theorem rest_row {K : PySem.W.Frag} {H : Hp} {a : Addr} {q : Int} {r : List Int} {Q : VK} (h : H a = some (.tup ((q :: r).map V.int))) (k : ∀ p, H p = none → Q (.ref p) (upd H p (.tup (r.map V.int)))) : rSlA K (.ref a) (some 1) none H Q := by
  refine ⟨a, _, rfl, tup_of h, fun e => ?_, fun _ p np => ?_⟩
  · exfalso
    have e := e.1
    unfold HT.sIx at e
    dsimp only at e
    rw [if_neg (by decide), List.map_cons, List.length_cons] at e
    have : min (1 : Int).toNat ((r.map V.int).length + 1) = 1 := Nat.min_eq_left (Nat.succ_le_succ (Nat.zero_le _))
    rw [this] at e
    exact absurd e (by decide)
  · have ec : cutV ((q :: r).map V.int) (some 1) none = r.map V.int := by
      rw [cut_row]
    rw [ec]
    exact k p np
/-- a row as it is passed: a tuple or a list -/
def RowIn (H : Hp) (a : Addr) (row : List Int) : Prop := H a = some (.tup (row.map V.int)) ∨ H a = some (.lst (row.map V.int))
theorem RowIn.same {H H' : Hp} {a : Addr} {row : List Int} (e : Same H H') (h : RowIn H a row) : RowIn H' a row := h.elim (fun h => .inl (e _ _ h)) fun h => .inr (e _ _ h)
def StartV (rows : List (List Int)) (o : Int) (v : V) : Prop := v = .int o ∨ (v = .non ∧ o = if rows.isEmpty then -1 else 0)
def spWebInit (K : PySem.W.Frag) (C : Addr) : Sp := fun vs H Q _ => ∃ (x dx q : Addr) (as : List Addr) (rows : List (List Int)) (e o : Int) (v : V), vs = [.ref x, .ref q, .int e, v] ∧ H x = some (.ins C dx []) ∧ SqL K H q (as.map V.ref) ∧ as.length = rows.length ∧
  (∀ (i : Nat) a row, as[i]? = some a → rows[i]? = some row → RowIn H a row) ∧ GoodW rows e o ∧ StartV rows o v ∧
  ∀ H', WebAt C H' x rows e o → (∀ b u, b ≠ x → H b = some u → H' b = some u) → Q .non H'
theorem put1 {v : V} : putF ("nodes" : Str) v [] = [(("nodes" : Str), v)] := by rfl
theorem put2 {u v : V} : putF ("ends" : Str) v [(("nodes" : Str), u)] = [(("nodes" : Str), u), (("ends" : Str), v)] := by rfl
theorem put3 {u v z : V} : putF ("start" : Str) v [(("nodes" : Str), u), (("ends" : Str), z)] = [(("nodes" : Str), u), (("ends" : Str), z), (("start" : Str), v)] := by rfl
/-! ## drawn webs -/
def spNames (K : PySem.W.Frag) : Sp := fun vs H Q _ => ∃ (p : Addr) (c : Nat) (m : Int), vs = [.ref p, .int m] ∧ PoolOk K p c H ∧ c + 100 < LIM ∧ 0 < m ∧ m ≤ 48 ∧
  ∀ H' D l, H D = none → Gd H H' → PoolOk K p (c + 100) H' → H' D = some (.lst (l.map V.int)) → Qn l → l ≠ [] → (l.length : Int) ≤ m → l.Nodup → Q (.ref D) H'
def TgtOk (e cnt idx t : Int) : Prop := -e ≤ t ∧ t < cnt ∧ ¬ (0 ≤ t ∧ t ≤ idx)
def spTarget (K : PySem.W.Frag) : Sp := fun vs H Q _ => ∃ (p : Addr) (c : Nat) (idx cnt e : Int), vs = [.ref p, .int idx, .int cnt, .int e] ∧ PoolOk K p c H ∧ c + 10 < LIM ∧ 0 ≤ idx ∧ idx < cnt ∧ cnt ≤ 400 ∧ 1 ≤ e ∧ e ≤ 60 ∧
  ∀ H' t, Gd H H' → PoolOk K p (c + 3) H' → TgtOk e cnt idx t → Q (.int t) H'
/-- one drawn node: its question is in its own list b, in none of the lists of its targets, and b holds these -/
def NdOk (e : Int) (N g : Nat) (nms row b : List Int) (bels : List (List Int)) : Prop := ∃ q r, row = q :: r ∧ (r.length = 2 ∨ r.length = 3) ∧ q ∈ nms ∧ q ∈ b ∧ ∀ t ∈ r, TgtOk e N g t ∧ (0 ≤ t → ∃ b', bels[(t - g - 1).toNat]? = some b' ∧ q ∉ b' ∧ ∀ z ∈ b', z ∈ b)
def GoodS (e : Int) (N : Nat) (nms : List Int) : List (List Int) → List (List Int) → Prop
  | [], [] => True
  | row :: rows, b :: bels => GoodS e N nms rows bels ∧ NdOk e N (N - (rows.length + 1)) nms row b bels
  | [], _ :: _ => False
  | _ :: _, [] => False
theorem GoodS.len {e : Int} {N : Nat} {nms : List Int} : ∀ {rows bels : List (List Int)}, GoodS e N nms rows bels → bels.length = rows.length
  | [], [], _ => rfl
  | _ :: _, _ :: _, h => by rw [List.length_cons, List.length_cons, GoodS.len h.1]
  | [], _ :: _, h => h.elim
  | _ :: _, [], h => h.elim
/-- by places: base is what stands before these rows -/
theorem GoodS.at {e : Int} {N : Nat} {nms : List Int} : ∀ {rows bels : List (List Int)} {base : Nat}, GoodS e N nms rows bels → base + rows.length = N → ∀ (j : Nat) row, rows[j]? = some row →
    ∃ q r b, row = q :: r ∧ (r.length = 2 ∨ r.length = 3) ∧ q ∈ nms ∧ bels[j]? = some b ∧ q ∈ b ∧ ∀ t ∈ r, TgtOk e N (base + j : Nat) t ∧ (0 ≤ t → ∃ b', bels[t.toNat - base]? = some b' ∧ q ∉ b' ∧ ∀ z ∈ b', z ∈ b)
  | [], [], _, _, _, j, row, hj => by simp at hj
  | [], _ :: _, _, h, _, _, _, _ => h.elim
  | _ :: _, [], _, h, _, _, _, _ => h.elim
  | row0 :: rows, b0 :: bels, base, h, hb, j, row, hj => by
    rw [List.length_cons] at hb
    cases j with
    | zero =>
      obtain rfl : row0 = row := Option.some.inj hj
      obtain ⟨q, r, e1, hl, hq, hqb, ht⟩ := h.2
      have eg : N - (rows.length + 1) = base := by omega
      rw [eg] at ht
      refine ⟨q, r, b0, e1, hl, hq, rfl, hqb, fun t m => ?_⟩
      obtain ⟨h1, h2⟩ := ht t m
      refine ⟨by simpa using h1, fun t0 => ?_⟩
      obtain ⟨b', hb', h3⟩ := h2 t0
      have := h1.2.2
      have hlt : (base : Int) < t := by
        refine Int.not_le.mp fun hle => this ⟨t0, hle⟩
      refine ⟨b', ?_, h3⟩
      have : t.toNat - base = (t - base - 1).toNat + 1 := by omega
      rw [this, List.getElem?_cons_succ]
      exact hb'
    | succ j =>
      obtain ⟨q, r, b, e1, hl, hq, hbj, hqb, ht⟩ := GoodS.at (base := base + 1) h.1 (by omega) j row hj
      refine ⟨q, r, b, e1, hl, hq, hbj, hqb, fun t m => ?_⟩
      obtain ⟨h1, h2⟩ := ht t m
      refine ⟨by rw [show base + (j + 1) = base + 1 + j by omega]; exact h1, fun t0 => ?_⟩
      obtain ⟨b', hb', h3⟩ := h2 t0
      have := h1.2.2
      have hlt : ((base + 1 + j : Nat) : Int) < t := by
        refine Int.not_le.mp fun hle => this ⟨t0, hle⟩
      refine ⟨b', ?_, h3⟩
      have : t.toNat - base = (t.toNat - (base + 1)) + 1 := by omega
      rw [this, List.getElem?_cons_succ]
      exact hb'
theorem GoodS.good {e o : Int} {nms : List Int} {rows bels : List (List Int)} (h : GoodS e rows.length nms rows bels) (hn : Qn nms) (e1 : 1 ≤ e) (e2 : e ≤ 60) (hl : rows.length ≤ 400) (o1 : -e ≤ o) (o2 : o < rows.length) : GoodW rows e o := by
  refine ⟨e1, e2, hl, fun i row hi => ?_, o1, o2, fun g z => ∃ b, bels[g]? = some b ∧ z ∈ b, fun i q r hi => ?_⟩
  · obtain ⟨q, r, b, er, hr, hq, _, _, ht⟩ := h.at (base := 0) (Nat.zero_add _) i row hi
    refine ⟨q, r, er, hr, (hn q hq).1, (hn q hq).2, fun t m => ?_⟩
    have := (ht t m).1
    rw [Nat.zero_add] at this
    exact this
  · obtain ⟨q', r', b, er, hr, hq, hb, hqb, ht⟩ := h.at (base := 0) (Nat.zero_add _) i _ hi
    obtain ⟨rfl, rfl⟩ := List.cons.inj er
    refine ⟨⟨b, hb, hqb⟩, fun t m t0 => ?_⟩
    obtain ⟨b', hb', h1, h2⟩ := (ht t m).2 t0
    rw [Nat.sub_zero] at hb'
    refine ⟨fun ⟨b2, hb2, hz⟩ => ?_, fun z ⟨b2, hb2, hz⟩ => ?_⟩
    · rw [hb'] at hb2
      obtain rfl := Option.some.inj hb2
      exact h1 hz
    · rw [hb'] at hb2
      obtain rfl := Option.some.inj hb2
      exact ⟨b, hb, h2 z hz⟩
def spNodes (K : PySem.W.Frag) : Sp := fun vs H Q _ => ∃ (p nm : Addr) (c N : Nat) (e : Int) (sk : Bool) (nms : List Int), vs = [.ref p, .int (N : Int), .int e, .ref nm, .bl sk] ∧ PoolOk K p c H ∧ c + 1000 < LIM ∧ N ≤ 13 ∧ 1 ≤ e ∧ e ≤ 60 ∧
  H nm = some (.lst (nms.map V.int)) ∧ nms ≠ [] ∧ nms.length ≤ 48 ∧
  ∀ H' D as rows bels, H D = none → Gd H H' → PoolOk K p (c + 1000) H' → H' D = some (.lst (as.map V.ref)) → RowsAt H' as rows → rows.length = N → GoodS e N nms rows bels → Q (.ref D) H'
theorem Gd.but {H0 H H' : Hp} {D : Addr} (g : Gd H0 H) (n : H0 D = none) (k : ∀ b o, b ≠ D → H b = some o → H' b = some o) : Gd H0 H' :=
  ⟨fun b o np h => k b o (ne_of_none h n) (g.1 b o np h), fun b o pl h => let ⟨o', p', h'⟩ := g.2 b o pl h; ⟨o', p', k b o' (ne_of_none h n) h'⟩⟩
theorem PoolOk.but {K : PySem.W.Frag} {p D : Addr} {c : Nat} {H H' : Hp} {ys : List V} (h : PoolOk K p c H) (hD : H D = some (.lst ys)) (n : ¬ isPool (.lst ys)) (k : ∀ b o, b ≠ D → H b = some o → H' b = some o) : PoolOk K p c H' := by
  obtain ⟨sa, ns, c', i, b, s, h1, h2, h3⟩ := h
  refine ⟨sa, ns, c', i, b, s, ?_, k _ _ (fun e => ?_) h2, h3⟩
  · rcases h1 with ⟨o, h1⟩ | h1
    · exact .inl ⟨o, k _ _ (ne_of h1 hD (by intro z; cases z)) h1⟩
    · exact .inr h1
  · subst e
    rw [h2] at hD
    injection hD with hD
    exact n ⟨sa, c', i, b, s, hD.symm⟩
theorem at_int {l : List Int} {r : Int} (h0 : 0 ≤ r) (h1 : r < (l.length : Int)) : ∃ z, z ∈ l ∧ atI (l.map V.int) r = some (.int z) := by
  obtain ⟨j, rfl⟩ : ∃ j : Nat, r = (j : Int) := ⟨r.toNat, by omega⟩
  have hj : j < l.length := by omega
  exact ⟨l[j], List.getElem_mem hj, atI_nat (by rw [List.getElem?_map, List.getElem?_eq_getElem hj]; rfl)⟩
/-! ## web[i] in a try body -/
section
variable {X : Cx} {CX : CXT} {n : Nat} {f C : Addr} {fd : FuncData} {ps : List Str} {sp : Sp} {pins : List (Addr × Obj)} {σ : St} {H : Hp} {s : Shared}
theorem run_ownS {E : XK} {A : Around} {vs : List V} {us : List Value} {Q : VK} (F : FnOk X.prog X.w X.K X.mg X.base CX n f fd ps sp) (sb : Sub X n A) (hb : Binds X.K fd ps []) (hx : PassesAt CX X σ E)
    (I : Inv X pins σ H s) (r : Vals vs us) (h : sp vs H Q E) : wpAny (model X.prog X.w) A (call (.ref f) us) (EP X pins σ Q) X.xe s := by
  have e0 : Env0 X.prog X.w X.K X.mg X.base A X.stack s H := by
    have e := I.env0
    exact ⟨by rw [sb.fr]; exact e.frames, e.mod, e.bs, e.bsz, e.funs, e.frf, e.hok, e.bare⟩
  have hl := F.len _ _ _ _ h
  have hl2 : us.length = ps.length := by rw [← hl, r.length]
  refine wpAny_call (codeAny_mono (F.run A X.stack s H ⟨us, []⟩ us vs Q E sb.room e0 (by
    have := hb s us I.kIn (by simpa using hl2)
    simpa using this) r h) fun r' s' hq => ?_)
  cases r' with
  | error e => exact hx pins H s e s' I hq
  | ok fl =>
    cases fl with
    | ret w => exact I.after hq
    | next => exact False.elim hq
    | brk => exact False.elim hq
    | cont => exact False.elim hq
def tOwnIxS (C : Addr) (sp : Sp) (E : St → XK) (ta tb : TE) : TE := fun σ H Q => ta σ H fun x H1 => tb σ H1 fun y H2 => rOwnIx C sp (E σ) x y H2 Q
theorem pe_ownIxS {E : St → XK} {a b : Expr} {ta tb : TE} {pos : Pos} (F : FnOk X.prog X.w X.K X.mg X.base CX n f fd ps sp) (hr : Room (n + 1) X.A) (hs : PySem.W.findIn X.K (.ref C) "__getitem__" = some (some (.ref f))) (hfn : PySem.W.fnIn X.K f = true) (hf : PySem.W.isFn X.K (.ref f) = true)
    (hb : Binds X.K fd ps []) (hx : ∀ σ, PassesAt CX X σ (E σ)) (ha : PE X a ta) (hb' : PE X b tb)
    (hsl : ∀ x i, subscripted b true (.ref x) i = runValue (.builtin "lifetime.subscript" ⟨[.ref x, i], []⟩) := by intro _ _; with_unfolding_all rfl) : PE X (.Subscript a b pos) (tOwnIxS C sp E ta tb) := by
  refine ⟨fun pins s σ H Q I h => ?_⟩
  refine Subscript_ (binT ha hb' I h fun v u s2 x y H2 I2 rx ry q => ?_)
  obtain ⟨c, dx, fs, rfl, hc, q⟩ := q
  cases rx
  obtain ⟨mB, J', _⟩ := ins_get I2.hok hc
  obtain ⟨od', J', _⟩ := J'.look
  obtain ⟨m, hF⟩ := I2.fr
  have sb : Sub X (n + 1) X.A := ⟨hr, rfl⟩
  exact PySem.W.sub_K hF I2.ok.mod.kin J' hs hfn hf (run_ownS (vs := [.ref c, y]) F sb.in1 hb (hx σ) I2 (.cons rfl (.cons ry .nil)) q) (hsl _ _)
end
/-- web[at] -/
def spItem (C CN : Addr) : Sp := fun vs H Q E => ∃ (x : Addr) (rows : List (List Int)) (e o z : Int), vs = [.ref x, .int z] ∧ WebAt C H x rows e o ∧ Bd z ∧
  ((0 ≤ z ∧ z < rows.length) → ∀ t row, rows[z.toNat]? = some row → H t = some (.tup (row.map V.int)) → Q (.ref t) H) ∧
  (¬ (0 ≤ z ∧ z < rows.length) → ∀ d H', H d = none → Same H H' → H' d = some (.xd [("index", .int z)]) → E (.ref CN) (some d) H')
/-! equality of tuples of tuples -/
def rowD (r : List Int) : PyData := .tuple (r.map PyData.int)
theorem dpAll_rows {K : PySem.W.Frag} {H : Hp} : ∀ {as : List Addr} {rows : List (List Int)}, RowsAt H as rows → DpAll K H (as.map V.ref) (rows.map rowD)
  | [], [], _ => .nil
  | [], _ :: _, h => by cases h.1
  | _ :: _, [], h => by cases h.1
  | a :: as, r :: rows, h => .cons (.tup (tup_of (h.2 0 a r rfl rfl)) (dpAll_ints r)) (dpAll_rows ⟨by have := h.1; simpa using this, fun j b row h1 h2 => h.2 (j + 1) b row h1 h2⟩)
theorem canLay_rows : ∀ rows : List (List Int), PyData.canLayAll0 (rows.map rowD) = true
  | [] => by rw [List.map_nil, PyData.canLayAll0]
  | n :: r => by
    rw [List.map_cons, PyData.canLayAll0, canLay_rows r]
    simp [rowD, PyData.canLay0, canLay_ints]
theorem depth_rows : ∀ rows : List (List Int), PyData.depthAll (rows.map rowD) ≤ 1
  | [] => by rw [List.map_nil, PyData.depthAll]; decide
  | n :: r => by
    have := depth_rows r
    rw [List.map_cons, PyData.depthAll]
    simp [rowD, PyData.depth, depth_ints]
    omega
theorem shR (rows : List (List Int)) : SeqAt.shaped (.tuple (rows.map rowD)) = true := by
  have := depth_rows rows
  simp [SeqAt.shaped, PyData.canLay0, canLay_rows, PyData.depth]
  omega
theorem ev_rows : ∀ rows rows2 : List (List Int), PyData.eqvAll (rows.map rowD) (rows2.map rowD) = decide (rows = rows2)
  | [], [] => by rw [List.map_nil, PyData.eqvAll]; rfl
  | [], _ :: _ => by rw [List.map_nil, List.map_cons, PyData.eqvAll]; rfl
  | _ :: _, [] => by rw [List.map_nil, List.map_cons, PyData.eqvAll]; rfl
  | a :: r, b :: s => by
    rw [List.map_cons, List.map_cons, PyData.eqvAll, ev_rows r s]
    unfold rowD
    rw [evT, Bool.eq_iff_iff, Bool.and_eq_true, decide_eq_true_eq, decide_eq_true_eq, decide_eq_true_eq, List.cons.injEq]
theorem eqD_rows {K : PySem.W.Frag} {H : Hp} {a b : Addr} {as bs : List Addr} {rows rows2 : List (List Int)} {Q : VK} (h1 : H a = some (.tup (as.map V.ref))) (h2 : H b = some (.tup (bs.map V.ref))) (r1 : RowsAt H as rows) (r2 : RowsAt H bs rows2) (q : Q (.bl (decide (rows = rows2))) H) : rEqD K (.ref a) (.ref b) H Q :=
  ⟨_, _, .tup (tup_of h1) (dpAll_rows r1), .tup (tup_of h2) (dpAll_rows r2), shR rows, shR rows2, by rw [PyData.eqv, ev_rows]; exact q⟩
theorem neD_rows {K : PySem.W.Frag} {H : Hp} {a b : Addr} {as bs : List Addr} {rows rows2 : List (List Int)} {Q : VK} (h1 : H a = some (.tup (as.map V.ref))) (h2 : H b = some (.tup (bs.map V.ref))) (r1 : RowsAt H as rows) (r2 : RowsAt H bs rows2) (q : Q (.bl (!decide (rows = rows2))) H) : rNeD K (.ref a) (.ref b) H Q :=
  ⟨_, _, .tup (tup_of h1) (dpAll_rows r1), .tup (tup_of h2) (dpAll_rows r2), shR rows, shR rows2, by rw [PyData.eqv, ev_rows]; exact q⟩
/-- web == other -/
def spEqW (C : Addr) : Sp := fun vs H Q _ => ∃ (x y : Addr) (rows rows2 : List (List Int)) (e o e2 o2 : Int), vs = [.ref x, .ref y] ∧ WebAt C H x rows e o ∧ WebAt C H y rows2 e2 o2 ∧ Q (.bl (decide (rows = rows2 ∧ e = e2 ∧ o = o2))) H
theorem neD_bad {K : PySem.W.Frag} {H : Hp} {x y : Addr} {s : Str} {z : Int} {Q : VK} (h1 : SqT K H x [.str s, .int z]) (h2 : SqT K H y [.str s, .int z]) (q : Q (.bl false) H) (hs : PyData.strOk s = true := by decide +kernel) : rNeD K (.ref x) (.ref y) H Q := by
  refine ⟨_, _, .tup h1 (.cons (.str s) (.cons (.int z) .nil)), .tup h2 (.cons (.str s) (.cons (.int z) .nil)), ?_, ?_, ?_⟩
  · simp [SeqAt.shaped, PyData.canLay0, PyData.canLayAll0, PyData.depth, PyData.depthAll, hs]
  · simp [SeqAt.shaped, PyData.canLay0, PyData.canLayAll0, PyData.depth, PyData.depthAll, hs]
  · rw [show PyData.eqv (.tuple [.str s, .int z]) (.tuple [.str s, .int z]) = true by simp [PyData.eqv, PyData.eqvAll]]
    exact q
def spSameW (C : Addr) : Sp := fun vs H Q _ => ∃ (x q : Addr) (as : List Addr) (rows : List (List Int)) (e o : Int), vs = [.ref x, .ref q, .int e, .int o] ∧ WebAt C H x rows e o ∧ H q = some (.lst (as.map V.ref)) ∧ RowsAt H as rows ∧ rows.length ≤ 400 ∧ 1 ≤ e ∧ e ≤ 60 ∧ ∀ H', Same H H' → Q (.bl true) H'
end L2

namespace L2
open PySem PySem.Spec PyProof.Rows
/-! ## webs with one row changed -/
theorem GoodW.more {rows : List (List Int)} {e o : Int} (h : GoodW rows e o) (he : e < 60) : GoodW rows (e + 1) o := by
  refine ⟨by have := h.e1; omega, by omega, h.len, fun i row hi => ?_, by have := h.o1; omega, h.o2, h.cert⟩
  obtain ⟨q, r, e1, h1, h2, h3, h4⟩ := h.row i row hi
  exact ⟨q, r, e1, h1, h2, h3, fun t m => by obtain ⟨x, y, z⟩ := h4 t m; exact ⟨by omega, y, z⟩⟩
theorem GoodW.from {rows : List (List Int)} {e o : Int} {o' : Int} (h : GoodW rows e o) (h1 : -e ≤ o') (h2 : o' < rows.length) : GoodW rows e o' := ⟨h.e1, h.e2, h.len, h.row, h1, h2, h.cert⟩
theorem GoodW.put {rows : List (List Int)} {e o : Int} {k : Nat} {q q' : Int} {r r' : List Int} (h : GoodW rows e o) (hk : rows[k]? = some (q :: r)) (hl : r'.length = 2 ∨ r'.length = 3) (q0 : 0 ≤ q') (q1 : q' < 48)
    (hq : q' = q ∨ ∀ (i : Nat) (z : Int) (s : List Int), rows[i]? = some (z :: s) → z ≠ q') (hr : ∀ t ∈ r', (0 ≤ t → t ∈ r) ∧ -e ≤ t) : GoodW (rows.set k (q' :: r')) e o := by
  obtain ⟨A, hA⟩ := h.cert
  have hkl : k < rows.length := (List.getElem?_eq_some_iff.mp hk).1
  have tok : ∀ t ∈ r', -e ≤ t ∧ t < (rows.length : Int) ∧ ¬ (0 ≤ t ∧ t ≤ k) := fun t m => by
    obtain ⟨h1, h2⟩ := hr t m
    by_cases t0 : 0 ≤ t
    · obtain ⟨q2, r2, e2, _, _, _, h3⟩ := h.row k _ hk
      obtain ⟨rfl, rfl⟩ := List.cons.inj e2
      exact h3 t (h1 t0)
    · exact ⟨h2, by omega, by omega⟩
  refine ⟨h.e1, h.e2, by rw [List.length_set]; exact h.len, fun i row hi => ?_, h.o1, by rw [List.length_set]; exact h.o2, ?_⟩
  · rw [List.length_set]
    by_cases hik : k = i
    · subst hik
      rw [List.getElem?_set_self hkl] at hi
      obtain rfl := Option.some.inj hi
      exact ⟨q', r', rfl, hl, q0, q1, tok⟩
    · rw [List.getElem?_set_ne hik] at hi
      exact h.row i row hi
  · rcases hq with rfl | hq
    · refine ⟨A, fun i z s hi => ?_⟩
      by_cases hik : k = i
      · subst hik
        rw [List.getElem?_set_self hkl] at hi
        obtain ⟨rfl, rfl⟩ := List.cons.inj (Option.some.inj hi)
        obtain ⟨a1, a2⟩ := hA k _ _ hk
        exact ⟨a1, fun t m t0 => a2 t ((hr t m).1 t0) t0⟩
      · rw [List.getElem?_set_ne hik] at hi
        exact hA i z s hi
    · refine ⟨fun i z => (A i z ∧ z ≠ q') ∨ (z = q' ∧ i ≤ k), fun i z s hi => ?_⟩
      by_cases hik : k = i
      · subst hik
        rw [List.getElem?_set_self hkl] at hi
        obtain ⟨rfl, rfl⟩ := List.cons.inj (Option.some.inj hi)
        refine ⟨.inr ⟨rfl, Nat.le_refl _⟩, fun t m t0 => ?_⟩
        have ht := (tok t m).2.2
        have tk : k < t.toNat := by omega
        refine ⟨fun hh => ?_, fun y hy => ?_⟩
        · rcases hh with ⟨_, h2⟩ | ⟨_, h2⟩
          · exact h2 rfl
          · omega
        · rcases hy with ⟨h1, h2⟩ | ⟨_, h2⟩
          · exact .inl ⟨((hA k _ _ hk).2 t ((hr t m).1 t0) t0).2 y h1, h2⟩
          · omega
      · rw [List.getElem?_set_ne hik] at hi
        have zq := hq i z s hi
        obtain ⟨a1, a2⟩ := hA i z s hi
        refine ⟨.inl ⟨a1, zq⟩, fun t m t0 => ?_⟩
        obtain ⟨b1, b2⟩ := a2 t m t0
        have ht : ¬ (0 ≤ t ∧ t ≤ i) := by
          obtain ⟨q2, r2, e2, _, _, _, h3⟩ := h.row i _ hi
          obtain ⟨rfl, rfl⟩ := List.cons.inj e2
          exact (h3 t m).2.2
        refine ⟨fun hh => ?_, fun y hy => ?_⟩
        · rcases hh with ⟨h1, _⟩ | ⟨h1, _⟩
          · exact b1 h1
          · exact zq h1
        · rcases hy with ⟨h1, h2⟩ | ⟨h1, h2⟩
          · exact .inl ⟨b2 y h1, h2⟩
          · exact .inr ⟨h1, by omega⟩
theorem GoodW.snoc {rows : List (List Int)} {e o q : Int} (h : GoodW rows e o) (hl : rows.length < 400) (q0 : 0 ≤ q) (q1 : q < 48) : GoodW (rows ++ [[q, -1, -1]]) e o := by
  obtain ⟨A, hA⟩ := h.cert
  have e1 := h.e1
  have ll : (rows ++ [[q, -1, -1]]).length = rows.length + 1 := by rw [List.length_append]; rfl
  have cs : ∀ {i : Nat} {row : List Int}, (rows ++ [[q, -1, -1]])[i]? = some row → (i < rows.length ∧ rows[i]? = some row) ∨ (i = rows.length ∧ row = [q, -1, -1]) := fun {i row} hi => by
    by_cases hj : i < rows.length
    · rw [List.getElem?_append_left hj] at hi
      exact .inl ⟨hj, hi⟩
    · rw [List.getElem?_append_right (by omega)] at hi
      have h0 : i - rows.length = 0 := by
        have := (List.getElem?_eq_some_iff.mp hi).1
        rw [List.length_singleton] at this
        omega
      rw [h0] at hi
      exact .inr ⟨by omega, (Option.some.inj hi).symm⟩
  refine ⟨e1, h.e2, by rw [ll]; omega, fun i row hi => ?_, h.o1, by have := h.o2; rw [ll]; omega, fun i z => if i < rows.length then A i z else z = q, fun i z s hi => ?_⟩
  · rw [ll]
    rcases cs hi with ⟨_, hi⟩ | ⟨rfl, rfl⟩
    · obtain ⟨q2, r2, e2, h1, h2, h3, h4⟩ := h.row i row hi
      exact ⟨q2, r2, e2, h1, h2, h3, fun t m => by obtain ⟨x, y, z⟩ := h4 t m; exact ⟨x, by omega, z⟩⟩
    · exact ⟨q, [-1, -1], rfl, .inl rfl, q0, q1, fun t m => by
        have : t = -1 := by simpa using m
        omega⟩
  · show (if i < rows.length then A i z else z = q) ∧ ∀ t, t ∈ s → 0 ≤ t → ¬ (if t.toNat < rows.length then A t.toNat z else z = q) ∧ ∀ y, (if t.toNat < rows.length then A t.toNat y else y = q) → (if i < rows.length then A i y else y = q)
    rcases cs hi with ⟨hil, hi⟩ | ⟨rfl, hi2⟩
    · obtain ⟨a1, a2⟩ := hA i z s hi
      simp only [if_pos hil]
      refine ⟨a1, fun t m t0 => ?_⟩
      have ht : t < rows.length := by
        obtain ⟨q2, r2, e2, _, _, _, h3⟩ := h.row i _ hi
        obtain ⟨rfl, rfl⟩ := List.cons.inj e2
        exact (h3 t m).2.1
      simp only [if_pos (show t.toNat < rows.length by omega)]
      exact a2 t m t0
    · obtain ⟨rfl, rfl⟩ := List.cons.inj hi2
      simp only [if_neg (Nat.lt_irrefl _)]
      refine ⟨trivial, fun t m t0 => ?_⟩
      have : t = -1 := by simpa using m
      omega
theorem set_eq_iff {rows : List (List Int)} {k : Nat} {row row' : List Int} (hk : rows[k]? = some row) : rows = rows.set k row' ↔ row' = row := by
  have hkl : k < rows.length := (List.getElem?_eq_some_iff.mp hk).1
  constructor
  · intro h
    have h2 : (rows.set k row')[k]? = some row' := List.getElem?_set_self hkl
    rw [← h, hk] at h2
    exact (Option.some.inj h2).symm
  · rintro rfl
    refine List.ext_getElem? fun i => ?_
    by_cases hik : k = i
    · subst hik; rw [List.getElem?_set_self hkl, hk]
    · rw [List.getElem?_set_ne hik]
theorem cut_set {α : Type} (l : List α) {k : Nat} (hk : k < l.length) (x : α) : l.take k ++ [x] ++ l.drop (k + 1) = l.set k x := by
  rw [List.set_eq_take_append_cons_drop, if_pos hk, List.append_assoc]
  rfl
/-- a comprehension within one: nothing free in it -/
theorem blkOk_any {N : List Str} {sc0 sc scope : Scope} {own : List (Str × Nat)} (h : blkC N sc0 scope own = true) (hf : (scope.names.all fun y => match y.2 with | NameKind.free => false | _ => true) = true) : BlkOk N sc scope own :=
  let b := blkOk_by h
  have hfree : ∀ y ∈ scope.names, y.2 = NameKind.free → List.lookup y.1 sc.names = some NameKind.cell ∨ List.lookup y.1 sc.names = some NameKind.free := fun y hy e => by
    have := List.all_eq_true.mp hf y hy
    rw [e] at this
    cases this
  ⟨b.kind, b.uniq, b.ix, hfree, b.own⟩
end L2

namespace L2
open PySem PySem.Spec PyProof.Rows
/-! ## x in t, t a tuple of data -/
def rInDT (K : PySem.W.Frag) : R2 := fun x y H Q => ∃ d ds, Dp K H x d ∧ Dp K H y (.tuple ds) ∧ SeqAt.shaped d = true ∧ SeqAt.shaped (.tuple ds) = true ∧ Q (.bl (ds.any fun z => PyData.eqv z d)) H
def rNotInDT (K : PySem.W.Frag) : R2 := fun x y H Q => ∃ d ds, Dp K H x d ∧ Dp K H y (.tuple ds) ∧ SeqAt.shaped d = true ∧ SeqAt.shaped (.tuple ds) = true ∧ Q (.bl (!ds.any fun z => PyData.eqv z d)) H
theorem Room.units65 {k : Nat} {A : Around} (h : Room k A) : A.units + 65 < cLine := by
  have := h.un
  omega
theorem op_inDT {X : Cx} (hu : X.A.units + 65 < cLine) : OpR X (compareOp .In) (rInDT X.K) := by
  intro pins s σ H x y v u Q I rx ry h
  obtain ⟨d, ds, hd, he, sd, se, q⟩ := h
  obtain ⟨as, r1⟩ := Dp.reads I d x v hd rx
  obtain ⟨bs, r2⟩ := Dp.reads I (.tuple ds) y u he ry
  exact SeqAt.in_tuple_reads r2 r1 (SeqAt.canLay_of_shaped se) (SeqAt.canLay_of_shaped sd) (room_in_shaped sd hu) ⟨.bl _, H, I, rfl, q⟩
theorem op_notInDT {X : Cx} (hu : X.A.units + 65 < cLine) : OpR X (compareOp .NotIn) (rNotInDT X.K) := by
  intro pins s σ H x y v u Q I rx ry h
  obtain ⟨d, ds, hd, he, sd, se, q⟩ := h
  obtain ⟨as, r1⟩ := Dp.reads I d x v hd rx
  obtain ⟨bs, r2⟩ := Dp.reads I (.tuple ds) y u he ry
  exact SeqAt.notIn_tuple_reads r2 r1 (SeqAt.canLay_of_shaped se) (SeqAt.canLay_of_shaped sd) (room_in_shaped sd hu) ⟨.bl _, H, I, rfl, q⟩
theorem ixN_nat {n j : Nat} (h : j < n) : ixN n (j : Int) = some j := by
  unfold ixN
  simp
  omega
/-! ## the drawing of the later stages: a list of the cells and a place -/
def Stt (p c : Addr) (H : Hp) : Prop := p ≠ c ∧ ∃ (ns : List Int) (i : Int), H p = some (.lst [.ref c, .int i]) ∧ H c = some (.lst (ns.map V.int))
def Fr (p c : Addr) (H H' : Hp) : Prop := (∀ b o, (∀ xs, o ≠ .lst xs) → H b = some o → H' b = some o) ∧ ∀ b xs, b ≠ p → b ≠ c → H b = some (.lst xs) → H' b = some (.lst xs)
theorem Fr.refl (p c : Addr) (H : Hp) : Fr p c H H := ⟨fun _ _ _ h => h, fun _ _ _ _ h => h⟩
theorem Fr.trans {p c : Addr} {H H1 H2 : Hp} (a : Fr p c H H1) (b : Fr p c H1 H2) : Fr p c H H2 := ⟨fun x o n h => b.1 x o n (a.1 x o n h), fun x xs n1 n2 h => b.2 x xs n1 n2 (a.2 x xs n1 n2 h)⟩
theorem Same.fr {p c : Addr} {H H' : Hp} (e : Same H H') : Fr p c H H' := ⟨fun x o _ h => e x o h, fun x xs _ _ h => e x _ h⟩
theorem Fr.tup {p c : Addr} {H H' : Hp} {x : Addr} {xs : List V} (e : Fr p c H H') (h : H x = some (.tup xs)) : H' x = some (.tup xs) := e.1 _ _ (fun _ z => by cases z) h
theorem Fr.ins {p c : Addr} {H H' : Hp} {x C dx : Addr} {xs : List (Str × V)} (e : Fr p c H H') (h : H x = some (.ins C dx xs)) : H' x = some (.ins C dx xs) := e.1 _ _ (fun _ z => by cases z) h
theorem Stt.same {p c : Addr} {H H' : Hp} (h : Stt p c H) (e : Same H H') : Stt p c H' := let ⟨n, ns, i, a, b⟩ := h; ⟨n, ns, i, e _ _ a, e _ _ b⟩
theorem Stt.upd {p c q : Addr} {H : Hp} {o : HO} (h : Stt p c H) (e : H q = none) : Stt p c (upd H q o) := h.same (same_upd e)
theorem Stt.mut {p c q : Addr} {H : Hp} {o : HO} (h : Stt p c H) (n1 : q ≠ p) (n2 : q ≠ c) : Stt p c (L2.upd H q o) := let ⟨n, ns, i, a, b⟩ := h; ⟨n, ns, i, by rw [upd_ne n1.symm]; exact a, by rw [upd_ne n2.symm]; exact b⟩
theorem Stt.ne {p c q : Addr} {H : Hp} (h : Stt p c H) (e : H q = none) : q ≠ p ∧ q ≠ c := let ⟨n, ns, i, a, b⟩ := h; ⟨(ne_of_none a e).symm, (ne_of_none b e).symm⟩
theorem Fr.free {p c q : Addr} {H H' : Hp} (e : Fr p c H H') (s : Stt p c H') (h : H' q = none) : H q = none := by
  cases hq : H q with
  | none => rfl
  | some o =>
    exfalso
    by_cases hl : ∃ xs, o = .lst xs
    · obtain ⟨xs, rfl⟩ := hl
      obtain ⟨n1, n2⟩ := s.ne h
      have := e.2 q xs n1 n2 hq
      rw [h] at this
      cases this
    · have := e.1 q o (fun xs z => hl ⟨xs, z⟩) hq
      rw [h] at this
      cases this
theorem Fr.mut {p c q : Addr} {H H' : Hp} {o : HO} (e : Fr p c H H') (n : H q = none) : Fr p c H (L2.upd H' q o) :=
  ⟨fun b u nl h => by rw [upd_ne (ne_of_none h n)]; exact e.1 b u nl h, fun b xs n1 n2 h => by rw [upd_ne (ne_of_none h n)]; exact e.2 b xs n1 n2 h⟩
theorem Fr.upd {p c q : Addr} {H H' : Hp} {o : HO} (e : Fr p c H H') (n : H' q = none) : Fr p c H (L2.upd H' q o) := e.trans (same_upd n).fr
def spDr (K : PySem.W.Frag) : Sp := fun vs H Q _ => ∃ (p c : Addr) (lim : Int), vs = [.ref p, .int lim] ∧ Stt p c H ∧ 0 < lim ∧ lim < 2 ^ 200 ∧ ∀ H' r, Fr p c H H' → Stt p c H' → 0 ≤ r → r < lim → Q (.int r) H'
end L2

namespace L2
open PySem PySem.Spec PyProof.Rows
/-! ## webs drawn in the later stages -/
theorem RowsAt.fr {p c : Addr} {H H' : Hp} {as : List Addr} {rows : List (List Int)} (e : Fr p c H H') (h : RowsAt H as rows) : RowsAt H' as rows := ⟨h.1, fun i a row x y => e.tup (h.2 i a row x y)⟩
theorem WebAt.fr {p c C : Addr} {H H' : Hp} {x : Addr} {rows : List (List Int)} {e o : Int} (s : Fr p c H H') (h : WebAt C H x rows e o) : WebAt C H' x rows e o := by
  obtain ⟨dx, nt, as, h1, h2, h3⟩ := h
  exact ⟨dx, nt, as, s.ins h1, s.tup h2, h3.fr s⟩
def spTgt (K : PySem.W.Frag) : Sp := fun vs H Q _ => ∃ (p c : Addr) (idx cnt e : Int), vs = [.ref p, .int idx, .int cnt, .int e] ∧ Stt p c H ∧ 0 ≤ idx ∧ idx < cnt ∧ cnt ≤ 400 ∧ 1 ≤ e ∧ e ≤ 60 ∧
  ∀ H' t, Fr p c H H' → Stt p c H' → TgtOk e cnt idx t → Q (.int t) H'
def spBelow : Sp := fun vs H Q _ => ∃ (b : Addr) (xs : List V) (t : Int), vs = [.ref b, .int t] ∧ H b = some (.lst xs) ∧ (t < 0 → ∀ D, H D = none → Q (.ref D) (upd H D (.lst []))) ∧ (0 ≤ t → ∃ v, xs[t.toNat]? = some v ∧ Q v H)
def spPoolS : Sp := fun vs H Q _ => ∃ (p c : Addr), vs = [.ref p] ∧ Stt p c H ∧ ∀ H' D l, H D = none → Fr p c H H' → Stt p c H' → H' D = some (.lst (l.map V.int)) → Qn l → l ≠ [] → l.length ≤ 5 → Q (.ref D) H'
def spNodesS : Sp := fun vs H Q _ => ∃ (p c pl : Addr) (l : List Int) (most : Nat) (e : Int), vs = [.ref p, .ref pl, .int (most : Int), .int e] ∧ Stt p c H ∧ H pl = some (.lst (l.map V.int)) ∧ pl ≠ p ∧ pl ≠ c ∧ Qn l ∧ l ≠ [] ∧ l.length ≤ 5 ∧ most ≤ 12 ∧ 1 ≤ e ∧ e ≤ 60 ∧
  ∀ H' D as rows bels, H D = none → Fr p c H H' → Stt p c H' → H' D = some (.lst (as.map V.ref)) → RowsAt H' as rows → GoodS e rows.length l rows bels → (∀ row ∈ rows, row.length = 3) → rows.length ≤ most → Q (.ref D) H'
def spOneWeb : Sp := fun vs H Q _ => ∃ (p c : Addr) (most : Nat), vs = [.ref p, .int (most : Int)] ∧ Stt p c H ∧ most ≤ 12 ∧
  ∀ H' t pl D l as rows bels (e : Int), H D = none → Fr p c H H' → Stt p c H' → H' t = some (.tup [.ref pl, .ref D, .int e]) → H' D = some (.lst (as.map V.ref)) → RowsAt H' as rows → Qn l → GoodS e rows.length l rows bels → (∀ row ∈ rows, row.length = 3) → rows.length ≤ most → 1 ≤ e → e ≤ 5 → Q (.ref t) H'
/-- a row with perhaps a skip more -/
def SkipOk (e : Int) (row row' : List Int) : Prop := row' = row ∨ ∃ s, row' = row ++ [s] ∧ ((s < 0 ∧ -e ≤ s) ∨ s ∈ row.tail)
def SkipsOk (e : Int) (rows rows' : List (List Int)) : Prop := rows'.length = rows.length ∧ ∀ (i : Nat) (row row' : List Int), rows[i]? = some row → rows'[i]? = some row' → SkipOk e row row'
theorem GoodW.skips {rows rows' : List (List Int)} {e o : Int} (h : GoodW rows e o) (h3 : ∀ row ∈ rows, row.length = 3) (hs : SkipsOk e rows rows') : GoodW rows' e o := by
  obtain ⟨A, hA⟩ := h.cert
  have key : ∀ (i : Nat) row', rows'[i]? = some row' → ∃ q r r', rows[i]? = some (q :: r) ∧ row' = q :: r' ∧ r.length = 2 ∧ (r'.length = 2 ∨ r'.length = 3) ∧ ∀ t ∈ r', t ∈ r ∨ (t < 0 ∧ -e ≤ t) := fun i row' hi => by
    have hil : i < rows.length := by rw [← hs.1]; exact (List.getElem?_eq_some_iff.mp hi).1
    have hri : rows[i]? = some rows[i] := List.getElem?_eq_getElem hil
    obtain ⟨q, r, er, _⟩ := h.row i _ hri
    have l3 := h3 _ (List.mem_of_getElem? hri)
    rw [er] at hri l3
    have r2 : r.length = 2 := by simpa using l3
    rcases hs.2 i _ _ hri hi with rfl | ⟨s, rfl, hss⟩
    · exact ⟨q, r, r, hri, rfl, r2, .inl r2, fun t m => .inl m⟩
    · refine ⟨q, r, r ++ [s], hri, rfl, r2, .inr (by rw [List.length_append, r2]; rfl), fun t m => ?_⟩
      rcases List.mem_append.mp m with m | m
      · exact .inl m
      · rw [List.mem_singleton.mp m]
        rcases hss with h | h
        · exact .inr h
        · exact .inl h
  refine ⟨h.e1, h.e2, by rw [hs.1]; exact h.len, fun i row' hi => ?_, h.o1, by rw [hs.1]; exact h.o2, A, fun i q r' hi => ?_⟩
  · obtain ⟨q, r, r', hri, rfl, _, hl, ht⟩ := key i row' hi
    obtain ⟨q2, r2, e2, _, h1, h2, h3⟩ := h.row i _ hri
    obtain ⟨rfl, rfl⟩ := List.cons.inj e2
    rw [hs.1]
    exact ⟨q, r', rfl, hl, h1, h2, fun t m => (ht t m).elim (fun m => h3 t m) fun m => ⟨m.2, by omega, by omega⟩⟩
  · obtain ⟨q2, r, r2, hri, e2, _, _, ht⟩ := key i _ hi
    obtain ⟨rfl, rfl⟩ := List.cons.inj e2
    obtain ⟨a1, a2⟩ := hA i q r hri
    exact ⟨a1, fun t m t0 => (ht t m).elim (fun m => a2 t m t0) fun m => absurd t0 (by omega)⟩
/-! the web without a node -/
def mv (k r t : Int) : Int := if t = k then r else t
def mvRow (k r : Int) : List Int → List Int
  | [] => []
  | q :: ts => q :: ts.map (mv k r)
theorem GoodW.without {rows : List (List Int)} {e o q ρ : Int} {r : List Int} {k : Nat} (h : GoodW rows e o) (hk : rows[k]? = some (q :: ρ :: r)) : GoodW (rows.map (mvRow k ρ)) e (mv k ρ o) := by
  obtain ⟨A, hA⟩ := h.cert
  obtain ⟨qk, rk, ek, _, _, _, hrk⟩ := h.row k _ hk
  obtain ⟨rfl, rfl⟩ := List.cons.inj ek
  have hρ := hrk ρ List.mem_cons_self
  have hkl : k < rows.length := (List.getElem?_eq_some_iff.mp hk).1
  have key : ∀ (i : Nat) row', (rows.map (mvRow k ρ))[i]? = some row' → ∃ q r, rows[i]? = some (q :: r) ∧ row' = q :: r.map (mv k ρ) := fun i row' hi => by
    rw [List.getElem?_map] at hi
    cases hh : rows[i]? with
    | none => rw [hh] at hi; cases hi
    | some row =>
      obtain ⟨q, r, er, _⟩ := h.row i _ hh
      rw [hh] at hi
      subst er
      exact ⟨q, r, rfl, (Option.some.inj hi).symm⟩
  have o1 := h.o1
  have o2 := h.o2
  refine ⟨h.e1, h.e2, by rw [List.length_map]; exact h.len, fun i row' hi => ?_, ?_, ?_, A, fun i q r' hi => ?_⟩
  · obtain ⟨q, r, hri, rfl⟩ := key i row' hi
    obtain ⟨q2, r2, e2, hl, h1, h2, h3⟩ := h.row i _ hri
    obtain ⟨rfl, rfl⟩ := List.cons.inj e2
    refine ⟨q, _, rfl, by rw [List.length_map]; exact hl, h1, h2, fun t m => ?_⟩
    obtain ⟨t', m', rfl⟩ := List.mem_map.mp m
    have ht := h3 t' m'
    rw [List.length_map]
    unfold mv
    split
    · rename_i ek
      subst ek
      omega
    · exact ht
  · unfold mv
    split
    · exact hρ.1
    · exact o1
  · rw [List.length_map]
    unfold mv
    split
    · exact hρ.2.1
    · exact o2
  · obtain ⟨q2, r, hri, e2⟩ := key i _ hi
    obtain ⟨rfl, rfl⟩ := List.cons.inj e2
    obtain ⟨a1, a2⟩ := hA i q r hri
    refine ⟨a1, fun t m t0 => ?_⟩
    obtain ⟨t', m', rfl⟩ := List.mem_map.mp m
    by_cases ek : t' = k
    · have em : mv k ρ t' = ρ := if_pos ek
      rw [em] at t0 ⊢
      obtain ⟨b1, b2⟩ := a2 t' m' (by omega)
      have kk : t'.toNat = k := by omega
      rw [kk] at b1 b2
      obtain ⟨_, c2⟩ := hA k _ _ hk
      obtain ⟨c3, c4⟩ := c2 ρ List.mem_cons_self t0
      exact ⟨fun hh => b1 (c4 _ hh), fun z hz => b2 z (c4 z hz)⟩
    · have em : mv k ρ t' = t' := if_neg ek
      rw [em] at t0 ⊢
      exact a2 t' m' t0
end L2

namespace L2
open PySem PySem.Spec PyProof.Rows
/-! ## set(l), l a list of ints -/
theorem call_set_lstI {P : Program} {w : World} {A : Around} {E : Value → Shared → Prop} {s : Shared} {l : Addr} {items : Array Value} (ns : List Int) {Q : Value → Shared → Prop} (hh : A.handled = none) (hl : s.heap.IsList l items) (hit : IntsAre items.toList ns) (hb : ns.length + 1 < scanBound)
    (h : ∀ (h' : Heap) (tk c : Nat), SetR w h' s.heap.objs.size (fun j => decide (j ∈ ns)) c → c ≤ ns.length → (∀ (b : Addr) (o : Obj), s.heap.get? b = some o → h'.get? b = some o) → Q (Value.ref s.heap.objs.size) { heap := h', gens := s.gens, drawn := s.drawn, toks := tk, os := s.os }) :
    wpAny (model P w) A (call (Value.type "set") [Value.ref l]) Q E s := by
  have hisz : items.size = ns.length := by have := hit.length; simpa using this
  obtain ⟨c, tl, hmro⟩ := F.called_set.mro
  have hmade := F.called_set.made
  refine wpAny_call (codeAny_of_tree ?_)
  refine wpAny_pure ⟨Code.quiet_builtin _ (by decide +kernel), codeAny_builtin F.entry_type_call ?_⟩
  rw [Around.under_plain (weight_type_call_type "set" [Value.ref l] []) rfl]
  have hct := F.typeCall_set_1 (Value.ref l)
  have h1 := F.called_set.notType
  have h2 := F.called_set.canCreate
  unfold Builtin.«type.__call__»
  dsimp only
  refine wpAny_ite_false (by rw [h1]; rfl) ?_
  refine wpAny_ite_false (by rw [h2]; rfl) ?_
  refine wpAny_bind (wpAny_of_eq hct ?_)
  refine wpAny_bind (wpAny_of_eq hmro ?_)
  refine wpAny_ite_false rfl ?_
  refine wpAny_bind (wpAny_of_eq hmade ?_)
  refine wpAny_bind (wpAny_pure ?_)
  refine wpAny_bind (wpAny_holding ?_)
  refine wpAny_call (codeAny_mono (code_set_led1 (Q₁ := fun obj s₁ => obj = .ref s.heap.objs.size ∧ s₁ = { heap := s.heap.push { cls := Value.type "set", data := Data.set #[] 0 (SetTable.fresh 0 0 !w.params.followText "set-order") }, gens := s.gens, drawn := s.drawn, toks := s.toks, os := s.os }) (E := E) (Value.ref l) ⟨rfl, rfl⟩) fun r s₁ hr => ?_)
  match r, hr with
  | .error e, hr => exact hr
  | .ok .next, hr => exact hr.elim
  | .ok .brk, hr => exact hr.elim
  | .ok .cont, hr => exact hr.elim
  | .ok (.ret v), hr =>
    obtain ⟨rfl, rfl⟩ := hr
    have hS : Shared.TypeIs { heap := s.heap.push { cls := Value.type "set", data := Data.set #[] 0 (SetTable.fresh 0 0 !w.params.followText "set-order") }, gens := s.gens, drawn := s.drawn, toks := s.toks, os := s.os } (.ref s.heap.objs.size) "set" := ⟨_, Heap.get?_push_size _ rfl, rfl⟩
    refine wpAny_bind (wpAny_isInstance hS F.called_set.sub ?_)
    refine wpAny_ite_false rfl ?_
    refine wpAny_bind (wpAny_holding ?_)
    refine wpAny_bind (wpAny_specialOf hS F.called_set.init.lookup ?_)
    refine wpAny_holding ?_
    refine wpAny_bind (wpAny_of_eq (F.called_set.init.bind _) ?_)
    refine wpAny_bind (wpAny_call (codeAny_mono (codeAny_call_builtin (R := wants (fun r s₂ => r = Value.none ∧ ∃ h' tk c, s₂ = { heap := h', gens := s.gens, drawn := s.drawn, toks := tk, os := s.os } ∧ SetR w h' s.heap.objs.size (fun j => decide (j ∈ ns)) c ∧ c ≤ ns.length ∧ ∀ (b : Addr) (o : Obj), s.heap.get? b = some o → h'.get? b = some o) E) F.called_set.init.plain F.entry_set_init (check_set_init_1 hS ?_)) fun r s₂ hr => ?_))
    · show wpAny (model P w) A.in1.in1 (Builtin.«set.__init__» { pos := [Value.ref s.heap.objs.size, Value.ref l] }) _ _ _
      unfold Builtin.«set.__init__»
      dsimp only
      refine wpAny_bind ?_
      unfold noKeywords
      refine wpAny_ite_true rfl ?_
      refine wpAny_pure ?_
      refine wpAny_bind ?_
      unfold typeNameOfCut
      refine wpAny_bind ?_
      unfold shownTypeOf
      refine wpAny_bind ?_
      refine wpAny_typeOf hS ?_
      refine wpAny_ite_false rfl ?_
      refine wpAny_pure ?_
      refine wpAny_pure ?_
      refine wpAny_bind ?_
      unfold checkCount
      refine wpAny_ite_false rfl ?_
      refine wpAny_ite_false rfl ?_
      refine wpAny_ite_false rfl ?_
      refine wpAny_pure ?_
      refine wpAny_bind ?_
      refine wpAny_pure ?_
      refine wpAny_bind ?_
      unfold setUsed
      refine wpAny_bind ?_
      unfold setState
      refine wpAny_bind ?_
      refine wpAny_load' (Heap.get?_push_size _ rfl) ?_
      refine wpAny_ite_false rfl ?_
      refine wpAny_pure ?_
      refine wpAny_pure ?_
      refine wpAny_ite_false rfl ?_
      refine wpAny_bind ?_
      unfold Builtin.Frozenset.updateFrom Builtin.Frozenset.isAnySet
      refine wpAny_bind ?_
      obtain ⟨ol, hol, hcl, nl, hdl⟩ := id hl
      have hlt : l < s.heap.objs.size := Heap.lt_size hol
      have hol' : (s.heap.push { cls := Value.type "set", data := Data.set #[] 0 (SetTable.fresh 0 0 !w.params.followText "set-order") }).get? l = some ol := Heap.get?_push_of_some _ hol
      have hL : Shared.TypeIs { heap := s.heap.push { cls := Value.type "set", data := Data.set #[] 0 (SetTable.fresh 0 0 !w.params.followText "set-order") }, gens := s.gens, drawn := s.drawn, toks := s.toks, os := s.os } (.ref l) "list" := ⟨_, hol', hcl⟩
      refine wpAny_bind ?_
      refine wpAny_isInstance hL F.sub_list_set ?_
      refine wpAny_bind ?_
      refine wpAny_typeOf hL ?_
      refine wpAny_of_eq F.sub_list_frozenset ?_
      refine wpAny_ite_false rfl ?_
      refine wpAny_bind ?_
      refine wpAny_typeOf hL ?_
      refine wpAny_ite_false rfl ?_
      refine wpAny_bind ?_
      refine wpAny_pyIter_list (items := items) ⟨ol, hol', hcl, nl, hdl⟩ ?_
      refine wpAny_bind (wpAny_runValue ?_)
      have hz1 : (s.heap.push { cls := Value.type "set", data := Data.set #[] 0 (SetTable.fresh 0 0 !w.params.followText "set-order") }).objs.size = s.heap.objs.size + 1 := Heap.size_push _ _
      have hli : (s.heap.push { cls := Value.type "set", data := Data.set #[] 0 (SetTable.fresh 0 0 !w.params.followText "set-order") }).IsList l items := ⟨ol, hol', hcl, nl, hdl⟩
      refine set_update_ints (Walks.toS (Walks.list (A := A.in1.in1.in1) hh _ l (by rw [hz1]; exact Nat.ne_of_lt (Nat.lt_succ_of_lt hlt)) items)) s.heap.objs.size (by
        rw [hz1]
        intro hm
        rcases List.mem_cons.mp hm with h | h
        · exact absurd h (Nat.ne_of_lt (Nat.lt_succ_self _))
        · exact absurd (List.mem_singleton.mp h) (Nat.ne_of_gt hlt)) ns hisz hb (fun i v hv => ?_) _ 0 _ rfl (Nat.zero_le _) ⟨⟨_, Heap.get?_push_size _ rfl, rfl, rfl⟩, hli.push _⟩ ⟨0, Nat.le_refl _, setR_new_at ?_⟩ fun s' c2 mv hc hR => ?_
      · obtain ⟨t, e⟩ := IntsAre.int_at hit i v (by rw [Array.getElem?_toList]; exact hv)
        have hi : i < ns.length := by rw [← hisz]; exact (Array.getElem?_eq_some_iff.mp hv).1
        exact ⟨ns.getD i 0, t, by rw [List.getD_eq_getElem?_getD, List.getElem?_eq_getElem hi]; rfl, e⟩
      · exact Heap.get?_push_of_some _ (Heap.get?_push_size _ rfl)
      · refine wpAny_pure (wpAny_pure ⟨rfl, s'.heap, s'.toks, c2, ?_, hR, by omega, fun b o hbo => mv.heap b o ?_ (Heap.get?_push_of_some _ (Heap.get?_push_of_some _ hbo))⟩)
        · have m1 := mv.gens
          have m2 := mv.drawn
          have m3 := mv.os
          obtain ⟨h', g', d', t', o'⟩ := s'
          dsimp only at m1 m2 m3
          subst m1 m2 m3
          rfl
        · have hbl := Heap.lt_size hbo
          intro hm
          rcases List.mem_cons.mp hm with h | h
          · exact absurd h (Nat.ne_of_lt hbl)
          · have h := List.mem_singleton.mp h
            rw [hz1] at h
            exact absurd h (Nat.ne_of_lt (Nat.lt_succ_of_lt hbl))
    · match r, hr with
      | .error e, hr => exact hr
      | .ok .next, hr => exact hr.elim
      | .ok .brk, hr => exact hr.elim
      | .ok .cont, hr => exact hr.elim
      | .ok (.ret v), hr =>
        obtain ⟨rfl, h', tk, c2, rfl, hR, hc, hk⟩ := hr
        refine wpAny_pure ?_
        refine wpAny_ite_false rfl ?_
        exact wpAny_pure (h h' tk c2 hR hc hk)
section
variable {X : Cx}
/-- set(l), l a list of ints -/
def rSetOfL (K : PySem.W.Frag) (w : World) : List V → Hp → VK → Prop := fun xs H Q => ∃ (l : Addr) (ns : List Int), xs = [V.ref l] ∧ SqL K H l (ns.map V.int) ∧ ns.length ≤ 1000 ∧
  ∀ p c, H p = none → c ≤ ns.length → (∀ L : List Int, (∀ k ∈ ns, k ∈ L) → c ≤ L.length) → Q (.ref p) (upd H p (SetO w p (fun j => decide (j ∈ ns)) c))
theorem cr_setOfL (hc : X.calm = true) : CallR X (.type "set") (rSetOfL X.K X.w) := by
  intro pins s σ H xs us Q I r h
  obtain ⟨l, ns, rfl, hq, hl, q⟩ := h
  rw [Vals.ref1 r]
  obtain ⟨its, rv, pt, hz⟩ := I.list hq
  have hi : IntsAre its.toArray.toList ns := by simpa using ints_of_vals rv
  refine call_set_lstI ns (I.ok.hd hc) (let ⟨o, n, h1, h2, _, h4⟩ := pt; ⟨o, h1, h2, n, h4⟩) hi (by unfold scanBound; omega) fun h' tk c R hcn k => ?_
  have hn : H s.heap.objs.size = none := I.hok.fresh (Nat.le_refl _)
  refine ⟨.ref s.heap.objs.size, upd H s.heap.objs.size (SetO X.w s.heap.objs.size (fun j => decide (j ∈ ns)) c), I.laid (t' := tk) k (Nat.le_refl _) (setO_new R), rfl, q _ c hn hcn fun L hL => ?_⟩
  obtain ⟨o, es, ep, t, ho, hex, hdt, g, nd, hm2, hb, hf, hn2, hr, hl2⟩ := R
  have z := nodup_le _ L nd fun x hx => hL x (of_decide_eq_true ((hm2 x).mpr hx))
  rw [List.length_map, Array.length_toList, hn2] at z
  exact z
end
end L2

namespace L2
open PySem PySem.Spec PyProof.Rows
/-! ## what is led to -/
inductive Led (rows : List (List Int)) (i : Int) : Int → Prop
  | refl : Led rows i i
  | step {j t q a b : Int} {r : List Int} : Led rows i j → 0 ≤ j → rows[j.toNat]? = some (q :: a :: b :: r) → (t = a ∨ t = b) → Led rows i t
theorem Led.sub {rows : List (List Int)} {i : Int} {S : Int → Prop} (h0 : S i) (hc : ∀ j q a b r, S j → 0 ≤ j → rows[j.toNat]? = some (q :: a :: b :: r) → S a ∧ S b) {j : Int} (h : Led rows i j) : S j := by
  induction h with
  | refl => exact h0
  | step _ h1 h2 h3 ih =>
    obtain ⟨x, y⟩ := hc _ _ _ _ _ ih h1 h2
    rcases h3 with rfl | rfl
    · exact x
    · exact y
theorem GoodW.two {rows : List (List Int)} {e o : Int} (h : GoodW rows e o) {i : Nat} {row : List Int} (hi : rows[i]? = some row) : ∃ q a b r, row = q :: a :: b :: r ∧ 0 ≤ q ∧ q < 48 ∧ (-e ≤ a ∧ a < rows.length ∧ ¬ (0 ≤ a ∧ a ≤ i)) ∧ (-e ≤ b ∧ b < rows.length ∧ ¬ (0 ≤ b ∧ b ≤ i)) := by
  obtain ⟨q, r, rfl, hl, q0, q1, ht⟩ := h.row i row hi
  match r, hl, ht with
  | a :: b :: r, _, ht => exact ⟨q, a, b, r, rfl, q0, q1, ht a List.mem_cons_self, ht b (List.mem_cons_of_mem _ List.mem_cons_self)⟩
theorem Led.bounds {rows : List (List Int)} {e o i : Int} (h : GoodW rows e o) (h1 : -e ≤ i) (h2 : i < rows.length) {j : Int} (hj : Led rows i j) : -e ≤ j ∧ j < rows.length := by
  refine hj.sub (S := fun j => -e ≤ j ∧ j < rows.length) ⟨h1, h2⟩ fun j q a b r _ j0 hr => ?_
  obtain ⟨q', a', b', r', er, _, _, x, y⟩ := h.two hr
  simp only [List.cons.injEq] at er
  obtain ⟨rfl, rfl, rfl, rfl⟩ := er
  exact ⟨⟨x.1, x.2.1⟩, y.1, y.2.1⟩
/-- all positions -/
def posL (e n : Nat) : List Int := (List.range (e + n)).map fun i : Nat => (i : Int) - (e : Int)
theorem mem_pos {e n : Nat} {x : Int} (h1 : -(e : Int) ≤ x) (h2 : x < n) : x ∈ posL e n := by
  unfold posL
  rw [List.mem_map]
  exact ⟨(x + e).toNat, List.mem_range.mpr (by omega), by omega⟩
theorem pos_len (e n : Nat) : (posL e n).length = e + n := by
  unfold posL
  rw [List.length_map, List.length_range]
/-! dicts of True -/
def dTrue (ks : List Int) : List (Key × V) := ks.map fun j => (Sum.inl j, V.bl true)
theorem valV_dTrue (t : Int) : ∀ ks : List Int, valV (dTrue ks) (Sum.inl t) = if t ∈ ks then some (V.bl true) else none
  | [] => by simp [dTrue, valV_nil]
  | k :: ks => by
    have ih := valV_dTrue t ks
    unfold dTrue at ih ⊢
    rw [List.map_cons]
    by_cases e : k = t
    · subst e
      rw [valV_pos rfl, if_pos List.mem_cons_self]
    · rw [valV_neg (fun z => e (Sum.inl.inj z)), ih]
      by_cases m : t ∈ ks
      · rw [if_pos m, if_pos (List.mem_cons_of_mem _ m)]
      · rw [if_neg m, if_neg (fun z => (List.mem_cons.mp z).elim (fun z => e z.symm) m)]
theorem put_dTrue {t : Int} {ks : List Int} (h : t ∉ ks) : putK (dTrue ks) (Sum.inl t) (V.bl true) = dTrue (ks ++ [t]) := by
  rw [putK_new _ (by rw [valV_dTrue, if_neg h])]
  unfold dTrue
  rw [List.map_append]
  rfl
theorem keys_dTrue (ks : List Int) : ((dTrue ks).map fun kv => kV kv.1) = ks.map V.int := by
  unfold dTrue
  rw [List.map_map]
  rfl
/-! [1:3] of a row -/
theorem cut_13 (q a b : Int) (r : List Int) : cutV ((q :: a :: b :: r).map V.int) (some 1) (some 3) = [a, b].map V.int := by
  unfold cutV HT.sIx
  simp only [List.map_cons, List.length_cons]
  rw [if_neg (by decide), if_neg (by decide)]
  have h1 : min (3 : Int).toNat ((r.map V.int).length + 1 + 1 + 1) = 3 := Nat.min_eq_left (by show 3 ≤ _; omega)
  have h2 : min (1 : Int).toNat ((r.map V.int).length + 1 + 1 + 1) = 1 := Nat.min_eq_left (by show 1 ≤ _; omega)
  rw [h1, h2]
  rfl
theorem mid_row {K : PySem.W.Frag} {H : Hp} {x : Addr} {q a b : Int} {r : List Int} {Q : VK} (h : H x = some (.tup ((q :: a :: b :: r).map V.int))) (k : ∀ p, H p = none → Q (.ref p) (upd H p (.tup ([a, b].map V.int)))) : rSlA K (.ref x) (some 1) (some 3) H Q := by
  refine ⟨x, _, rfl, tup_of h, fun e => ?_, fun _ p np => ?_⟩
  · exfalso
    have e := e.1
    unfold HT.sIx at e
    simp only [List.map_cons, List.length_cons] at e
    rw [if_neg (by decide)] at e
    have h2 : min (1 : Int).toNat ((r.map V.int).length + 1 + 1 + 1) = 1 := Nat.min_eq_left (by show 1 ≤ _; omega)
    rw [h2] at e
    cases e
  · rw [cut_13]
    exact k p np
/-! the promises -/
def spLed (K : PySem.W.Frag) (C CN : Addr) : Sp := fun vs H Q E => ∃ (x : Addr) (rows : List (List Int)) (e o z : Int), vs = [.ref x, .int z] ∧ WebAt C H x rows e o ∧ GoodW rows e o ∧ Bd z ∧
  ((-e ≤ z ∧ z < rows.length) → ∀ (H' : Hp) (D : Addr) (l : List Int), Same H H' → H' D = some (.lst (l.map V.int)) → (∀ j, j ∈ l ↔ Led rows z j) → l.Nodup → Q (.ref D) H') ∧
  (¬ (-e ≤ z ∧ z < rows.length) → ∀ d H', H d = none → Same H H' → H' d = some (.xd [("place", .int z)]) → E (.ref CN) (some d) H')
/-- the questions asked from z -/
def IsAsked (rows : List (List Int)) (z : Int) (l : List Int) : Prop := ∀ k, k ∈ l ↔ ∃ (j : Nat) (r : List Int), Led rows z j ∧ rows[j]? = some (k :: r)
def IsReach (rows : List (List Int)) (z : Int) (l : List Int) : Prop := ∀ k, k ∈ l ↔ (0 ≤ k ∧ Led rows z (-1 - k))
def IsReached (rows : List (List Int)) (z : Int) (l : List Int) : Prop := ∀ k, k ∈ l ↔ (0 ≤ k ∧ Led rows z k)
def spAsked (K : PySem.W.Frag) (C CN : Addr) : Sp := fun vs H Q E => ∃ (x : Addr) (rows : List (List Int)) (e o z : Int), vs = [.ref x, .int z] ∧ WebAt C H x rows e o ∧ GoodW rows e o ∧ rows.length ≤ 40 ∧ Bd z ∧
  ((-e ≤ z ∧ z < rows.length) → ∀ (H' : Hp) (t : Addr) (l : List Int), Same H H' → H' t = some (.tup ((norm l).map V.int)) → IsAsked rows z l → Q (.ref t) H') ∧
  (¬ (-e ≤ z ∧ z < rows.length) → ∀ d H', H d = none → Same H H' → H' d = some (.xd [("place", .int z)]) → E (.ref CN) (some d) H')
def spReach (K : PySem.W.Frag) (C CN : Addr) : Sp := fun vs H Q E => ∃ (x : Addr) (rows : List (List Int)) (e o z : Int), vs = [.ref x, .int z] ∧ WebAt C H x rows e o ∧ GoodW rows e o ∧ e ≤ 40 ∧ Bd z ∧
  ((-e ≤ z ∧ z < rows.length) → ∀ (H' : Hp) (t : Addr) (l : List Int), Same H H' → H' t = some (.tup ((norm l).map V.int)) → IsReach rows z l → Q (.ref t) H') ∧
  (¬ (-e ≤ z ∧ z < rows.length) → ∀ d H', H d = none → Same H H' → H' d = some (.xd [("place", .int z)]) → E (.ref CN) (some d) H')
def spReached (C : Addr) : Sp := fun vs H Q _ => ∃ (x : Addr) (rows : List (List Int)) (e o : Int), vs = [.ref x] ∧ WebAt C H x rows e o ∧ GoodW rows e o ∧ rows.length ≤ 40 ∧
  ∀ (H' : Hp) (t : Addr) (l : List Int), Same H H' → H' t = some (.tup ((norm l).map V.int)) → IsReached rows o l → Q (.ref t) H'
def lenD : Option HO → Nat
  | some (.dK kvs) => kvs.length
  | _ => 0
def lenL : Option HO → Nat
  | some (.lst xs) => xs.length
  | _ => 0
end L2

namespace L2
open PySem PySem.Spec PyProof.Rows
section
variable {X : Cx}
/-- range(n) as a value -/
theorem cr_range1 : CallR X (.type "range") (fun vs H Q => ∃ j, vs = [V.int j] ∧ ∀ p, H p = none → Q (.ref p) (upd H p (.rng 0 j))) := by
  intro pins s σ H xs us Q I r h
  obtain ⟨j, rfl, q⟩ := h
  cases r with
  | cons ra rr =>
    cases rr
    obtain ⟨t, rfl⟩ := ra
    refine call_range_1 ?_
    have hn : H s.heap.objs.size = none := I.hok.fresh (Nat.le_refl _)
    exact ⟨.ref s.heap.objs.size, upd H s.heap.objs.size (.rng 0 j), I.laid (fun b u e => Heap.get?_push_of_some _ e) (Nat.le_refl _) ⟨_, _, _, Heap.get?_push_size _ rfl⟩, rfl, q _ hn⟩
/-- going over a range that stands in H -/
def iRngO (tl : TE) : TI := fun σ H R => tl σ H fun x H1 => ∃ a lo hi, x = V.ref a ∧ H1 a = some (.rng lo hi) ∧ -(2 ^ 62) ≤ lo ∧ lo < 2 ^ 62 ∧ -(2 ^ 62) ≤ hi ∧ hi < 2 ^ 62 ∧ R (Itr lo (hi - lo).toNat) H1
theorem pi_rngO {tg l : Expr} {tl : TE} (hl : PE X l tl) : PI X tg l (iRngO tl) := by
  refine ⟨fun pins s σ H R I h => ?_⟩
  refine thn (hl.run pins s σ H _ I h) fun v s1 hh => ?_
  obtain ⟨x, H1, I1, r, a, lo, hi, rfl, ha, h1, h2, h3, h4, hR⟩ := hh
  cases r
  obtain ⟨t, u, v, ho⟩ := I1.hok _ _ ha
  have g0 : IsRange s1.heap a lo hi 1 t u v := ho
  refine wpAny_pyIter_range g0 (small_one h1 h2 h3 h4) ?_
  have n0 := rangeSize_one lo hi
  refine ⟨s1.heap.objs.size, [s1.heap.objs.size], _, Itr lo (hi - lo).toNat, H1, rfl, I1.kept (fun b o e => Heap.get?_push_of_some _ e), turn_range s1.heap.objs.size lo (hi - lo).toNat, ?_, fun b hb => ?_, hR⟩
  · have e : ((Builtin.Range.rangeSize lo hi 1 : Int)) = (((hi - lo).toNat : Nat) : Int) := by
      rw [rangeSize_one]
      split <;> omega
    show (s1.heap.push _).get? _ = _
    rw [Heap.get?_push_size _ rfl, e]
    simp
  · rw [List.mem_singleton.mp hb]
    exact I1.fpOk (Nat.le_refl _) (I1.hok.fresh (Nat.le_refl _))
end
end L2

namespace K27
open PySem PySem.Spec PyProof.Rows L2
def topS (i : Nat) : Stmt := PySem.Challenge.pw_steppedtests_k27_splits_and_harmless_pai.main.body.getD i (.Pass ⟨0, 0, 0, 0⟩)
abbrev s_is_question : Stmt := topS 11
abbrev N_is_question : List Str := ["number"]
abbrev P_is_question : List Str := ["number"]
theorem sc_is_question : FnScope N_is_question P_is_question (defScope s_is_question) := ⟨rfl, rfl, rfl, by decide +kernel, rfl, by decide +kernel, by decide +kernel⟩
abbrev s_Web_contains : Stmt := inClass (topS 17) 6
abbrev N_Web_contains : List Str := ["self", "x"]
abbrev P_Web_contains : List Str := ["self", "x"]
theorem sc_Web_contains : FnScope N_Web_contains P_Web_contains (defScope s_Web_contains) := ⟨rfl, rfl, rfl, by decide +kernel, rfl, by decide +kernel, by decide +kernel⟩
abbrev s_Web_len : Stmt := inClass (topS 17) 3
abbrev N_Web_len : List Str := ["self"]
abbrev P_Web_len : List Str := ["self"]
theorem sc_Web_len : FnScope N_Web_len P_Web_len (defScope s_Web_len) := ⟨rfl, rfl, rfl, by decide +kernel, rfl, by decide +kernel, by decide +kernel⟩
abbrev s_Web_first : Stmt := inClass (topS 17) 2
abbrev N_Web_first : List Str := ["self"]
abbrev P_Web_first : List Str := ["self"]
theorem sc_Web_first : FnScope N_Web_first P_Web_first (defScope s_Web_first) := ⟨rfl, rfl, rfl, by decide +kernel, rfl, by decide +kernel, by decide +kernel⟩
abbrev s_Web_can_stand : Stmt := inClass (topS 17) 1
abbrev N_Web_can_stand : List Str := ["self", "k", "node", "target"]
abbrev P_Web_can_stand : List Str := ["self", "k", "node"]
theorem sc_Web_can_stand : FnScope N_Web_can_stand P_Web_can_stand (defScope s_Web_can_stand) := ⟨rfl, rfl, rfl, by decide +kernel, rfl, by decide +kernel, by decide +kernel⟩
abbrev s_asked_twice : Stmt := topS 18
abbrev N_asked_twice : List Str := ["nodes", "masks", "twice", "k", "behind", "target", "own"]
abbrev P_asked_twice : List Str := ["nodes"]
theorem sc_asked_twice : FnScope N_asked_twice P_asked_twice (defScope s_asked_twice) := ⟨rfl, rfl, rfl, by decide +kernel, rfl, by decide +kernel, by decide +kernel⟩
abbrev s_Web_init : Stmt := inClass (topS 17) 0
abbrev N_Web_init : List Str := ["self", "nodes", "ends", "start", "k", "node", "twice"]
abbrev P_Web_init : List Str := ["self", "nodes", "ends", "start"]
theorem sc_Web_init : FnScope N_Web_init P_Web_init (defScope s_Web_init) := ⟨rfl, rfl, rfl, by decide +kernel, rfl, by decide +kernel, by decide +kernel⟩
abbrev s_NoNode_init : Stmt := inClass (topS 7) 0
abbrev N_NoNode_init : List Str := ["self", "index"]
abbrev P_NoNode_init : List Str := ["self", "index"]
theorem sc_NoNode_init : FnScope N_NoNode_init P_NoNode_init (defScope s_NoNode_init) := ⟨rfl, rfl, rfl, by decide +kernel, rfl, by decide +kernel, by decide +kernel⟩
abbrev s_NoPosition_init : Stmt := inClass (topS 8) 0
abbrev N_NoPosition_init : List Str := ["self", "place"]
abbrev P_NoPosition_init : List Str := ["self", "place"]
theorem sc_NoPosition_init : FnScope N_NoPosition_init P_NoPosition_init (defScope s_NoPosition_init) := ⟨rfl, rfl, rfl, by decide +kernel, rfl, by decide +kernel, by decide +kernel⟩
abbrev s_Web_getitem : Stmt := inClass (topS 17) 4
abbrev N_Web_getitem : List Str := ["self", "at"]
abbrev P_Web_getitem : List Str := ["self", "at"]
theorem sc_Web_getitem : FnScope N_Web_getitem P_Web_getitem (defScope s_Web_getitem) := ⟨rfl, rfl, rfl, by decide +kernel, rfl, by decide +kernel, by decide +kernel⟩
abbrev s_Web_led_to : Stmt := inClass (topS 17) 11
abbrev N_Web_led_to : List Str := ["self", "position", "found", "waiting", "place", "targets", "target"]
abbrev P_Web_led_to : List Str := ["self", "position"]
theorem sc_Web_led_to : FnScope N_Web_led_to P_Web_led_to (defScope s_Web_led_to) := ⟨rfl, rfl, rfl, by decide +kernel, rfl, by decide +kernel, by decide +kernel⟩
abbrev s_Web_reached : Stmt := inClass (topS 17) 10
abbrev N_Web_reached : List Str := ["self", "place"]
abbrev P_Web_reached : List Str := ["self"]
theorem sc_Web_reached : FnScope N_Web_reached P_Web_reached (defScope s_Web_reached) := ⟨rfl, rfl, rfl, by decide +kernel, rfl, by decide +kernel, by decide +kernel⟩
abbrev s_splits : Stmt := topS 13
abbrev N_splits : List Str := ["web", "k"]
abbrev P_splits : List Str := ["web"]
theorem sc_splits : FnScope N_splits P_splits (defScope s_splits) := ⟨rfl, rfl, rfl, by decide +kernel, rfl, by decide +kernel, by decide +kernel⟩
abbrev s_harmless : Stmt := topS 14
abbrev N_harmless : List Str := ["marks", "ends", "e", "f"]
abbrev P_harmless : List Str := ["marks"]
theorem sc_harmless : FnScope N_harmless P_harmless (defScope s_harmless) := ⟨rfl, rfl, rfl, by decide +kernel, rfl, by decide +kernel, by decide +kernel⟩
abbrev s_l_draw : Stmt := topS 20
abbrev N_l_draw : List Str := ["_law_state", "_law_limit", "_law_cells", "_law_at", "_law_cell", "_law_mixed"]
abbrev P_l_draw : List Str := ["_law_state", "_law_limit"]
theorem sc_l_draw : FnScope N_l_draw P_l_draw (defScope s_l_draw) := ⟨rfl, rfl, rfl, by decide +kernel, rfl, by decide +kernel, by decide +kernel⟩
abbrev s_l_target : Stmt := topS 21
abbrev N_l_target : List Str := ["_law_state", "_law_index", "_law_count", "_law_ends", "_law_spot"]
abbrev P_l_target : List Str := ["_law_state", "_law_index", "_law_count", "_law_ends"]
theorem sc_l_target : FnScope N_l_target P_l_target (defScope s_l_target) := ⟨rfl, rfl, rfl, by decide +kernel, rfl, by decide +kernel, by decide +kernel⟩
abbrev s_l_below : Stmt := topS 22
abbrev N_l_below : List Str := ["_law_below_here", "_law_target_here"]
abbrev P_l_below : List Str := ["_law_below_here", "_law_target_here"]
theorem sc_l_below : FnScope N_l_below P_l_below (defScope s_l_below) := ⟨rfl, rfl, rfl, by decide +kernel, rfl, by decide +kernel, by decide +kernel⟩
abbrev s_l_pool : Stmt := topS 23
abbrev N_l_pool : List Str := ["_law_state", "_law_first", "_law_step", "_law_k"]
abbrev P_l_pool : List Str := ["_law_state"]
theorem sc_l_pool : FnScope N_l_pool P_l_pool (defScope s_l_pool) := ⟨rfl, rfl, rfl, by decide +kernel, rfl, by decide +kernel, by decide +kernel⟩
abbrev s_l_nodes : Stmt := topS 24
abbrev N_l_nodes : List Str := ["_law_state", "_law_pool_here", "_law_most", "_law_ends", "_law_count", "_law_nodes_here", "_law_below_here", "_law_index", "_law_targets", "_law_used", "_law_target_here", "_law_free", "_law_question", "_law_k"]
abbrev P_l_nodes : List Str := ["_law_state", "_law_pool_here", "_law_most", "_law_ends"]
theorem sc_l_nodes : FnScope N_l_nodes P_l_nodes (defScope s_l_nodes) := ⟨rfl, rfl, rfl, by decide +kernel, rfl, by decide +kernel, by decide +kernel⟩
abbrev s_l_start : Stmt := topS 25
abbrev N_l_start : List Str := ["_law_nodes_here"]
abbrev P_l_start : List Str := ["_law_nodes_here"]
theorem sc_l_start : FnScope N_l_start P_l_start (defScope s_l_start) := ⟨rfl, rfl, rfl, by decide +kernel, rfl, by decide +kernel, by decide +kernel⟩
abbrev s_l_one_web : Stmt := topS 26
abbrev N_l_one_web : List Str := ["_law_state", "_law_most", "_law_pool_here", "_law_ends"]
abbrev P_l_one_web : List Str := ["_law_state", "_law_most"]
theorem sc_l_one_web : FnScope N_l_one_web P_l_one_web (defScope s_l_one_web) := ⟨rfl, rfl, rfl, by decide +kernel, rfl, by decide +kernel, by decide +kernel⟩
abbrev s_l_marks : Stmt := topS 27
abbrev N_l_marks : List Str := ["_law_state", "_law_ends", "_law_limit", "_law_k"]
abbrev P_l_marks : List Str := ["_law_state", "_law_ends"]
theorem sc_l_marks : FnScope N_l_marks P_l_marks (defScope s_l_marks) := ⟨rfl, rfl, rfl, by decide +kernel, rfl, by decide +kernel, by decide +kernel⟩
abbrev s_l_reached : Stmt := topS 28
abbrev N_l_reached : List Str := ["_law_nodes_here", "_law_place", "_law_found", "_law_todo", "_law_k", "_law_at"]
abbrev P_l_reached : List Str := ["_law_nodes_here", "_law_place"]
theorem sc_l_reached : FnScope N_l_reached P_l_reached (defScope s_l_reached) := ⟨rfl, rfl, rfl, by decide +kernel, rfl, by decide +kernel, by decide +kernel⟩
abbrev s_law : Stmt := topS 30
abbrev N_law : List Str := ["_law_script", "_law_state", "_law_pool_here", "_law_nodes_here", "_law_ends", "_law_marks_here", "_law_place", "_law_web", "_law_due", "_law_pairs", "_law_one", "_law_two", "_law_given", "_law_at"]
abbrev P_law : List Str := ["_law_script"]
theorem sc_law : FnScope N_law P_law (defScope s_law) := ⟨rfl, rfl, rfl, by decide +kernel, rfl, by decide +kernel, by decide +kernel⟩
structure Ad where
  c_TestError : Addr
  c_NoNode : Addr
  c_NoPosition : Addr
  c_Web : Addr
  f_is_question : Addr
  d_is_question : FuncData
  f_Web_contains : Addr
  d_Web_contains : FuncData
  f_Web_len : Addr
  d_Web_len : FuncData
  f_Web_first : Addr
  d_Web_first : FuncData
  f_Web_can_stand : Addr
  d_Web_can_stand : FuncData
  f_asked_twice : Addr
  d_asked_twice : FuncData
  f_Web_init : Addr
  d_Web_init : FuncData
  f_NoNode_init : Addr
  d_NoNode_init : FuncData
  f_NoPosition_init : Addr
  d_NoPosition_init : FuncData
  f_Web_getitem : Addr
  d_Web_getitem : FuncData
  f_Web_led_to : Addr
  d_Web_led_to : FuncData
  f_Web_reached : Addr
  d_Web_reached : FuncData
  f_splits : Addr
  d_splits : FuncData
  f_harmless : Addr
  d_harmless : FuncData
  f_l_draw : Addr
  d_l_draw : FuncData
  f_l_target : Addr
  d_l_target : FuncData
  f_l_below : Addr
  d_l_below : FuncData
  f_l_pool : Addr
  d_l_pool : FuncData
  f_l_nodes : Addr
  d_l_nodes : FuncData
  f_l_start : Addr
  d_l_start : FuncData
  f_l_one_web : Addr
  d_l_one_web : FuncData
  f_l_marks : Addr
  d_l_marks : FuncData
  f_l_reached : Addr
  d_l_reached : FuncData
  f_law : Addr
  d_law : FuncData
  ds_Web_init : List Value
  t_QUESTIONS : Tok
  t_MOST_ENDS : Tok
structure Txt (K : PySem.W.Frag) (mg : Str → Option Value) (a : Ad) : Prop where
  g_TestError : mg "TestError" = some (.ref a.c_TestError)
  g_NoNode : mg "NoNode" = some (.ref a.c_NoNode)
  g_NoPosition : mg "NoPosition" = some (.ref a.c_NoPosition)
  g_Web : mg "Web" = some (.ref a.c_Web)
  cl_Web : Cls K a.c_Web
  mk_Web : Mk K a.c_Web a.f_Web_init
  nA_Web_nodes : NoAttr K a.c_Web "nodes"
  nA_Web_ends : NoAttr K a.c_Web "ends"
  nA_Web_start : NoAttr K a.c_Web "start"
  bi_TestError : BaseI K a.c_TestError
  ox_NoNode : OexC K a.c_NoNode
  xf_NoNode : XfC K a.c_NoNode
  nf_NoNode_index : PySem.W.findIn K (.ref a.c_NoNode) "index" = some none
  te_NoNode : PySem.W.exmOne K (.ref a.c_NoNode) (.ref a.c_NoNode) = some true
  ek_NoNode : PySem.W.ErrK K a.c_NoNode
  ii_NoNode : PySem.W.findIn K (.ref a.c_NoNode) "__init__" = some (some (.ref a.f_NoNode_init))
  ti_NoNode : PySem.W.typeIn K (.ref a.f_NoNode_init) = some (.type "function")
  kt_NoNode : PySem.W.kitOne K (.ref a.c_NoNode) (.ref a.c_TestError) = some true
  ox_NoPosition : OexC K a.c_NoPosition
  xf_NoPosition : XfC K a.c_NoPosition
  nf_NoPosition_place : PySem.W.findIn K (.ref a.c_NoPosition) "place" = some none
  te_NoPosition : PySem.W.exmOne K (.ref a.c_NoPosition) (.ref a.c_NoPosition) = some true
  ek_NoPosition : PySem.W.ErrK K a.c_NoPosition
  ii_NoPosition : PySem.W.findIn K (.ref a.c_NoPosition) "__init__" = some (some (.ref a.f_NoPosition_init))
  ti_NoPosition : PySem.W.typeIn K (.ref a.f_NoPosition_init) = some (.type "function")
  kt_NoPosition : PySem.W.kitOne K (.ref a.c_NoPosition) (.ref a.c_TestError) = some true
  F_is_question : Fun K "is_question" "is_question" s_is_question a.f_is_question a.d_is_question
  b_is_question : Binds K a.d_is_question P_is_question []
  k_is_question : PySem.W.keepIn K (.ref a.f_is_question) = true
  g_is_question : mg "is_question" = some (.ref a.f_is_question)
  F_Web_contains : Fun K "__contains__" "Web.__contains__" s_Web_contains a.f_Web_contains a.d_Web_contains
  b_Web_contains : Binds K a.d_Web_contains P_Web_contains []
  k_Web_contains : PySem.W.keepIn K (.ref a.f_Web_contains) = true
  i_Web_contains : PySem.W.isFn K (.ref a.f_Web_contains) = true
  s_Web_contains : PySem.W.findIn K (.ref a.c_Web) "__contains__" = some (some (.ref a.f_Web_contains))
  F_Web_len : Fun K "__len__" "Web.__len__" s_Web_len a.f_Web_len a.d_Web_len
  b_Web_len : Binds K a.d_Web_len P_Web_len []
  k_Web_len : PySem.W.keepIn K (.ref a.f_Web_len) = true
  i_Web_len : PySem.W.isFn K (.ref a.f_Web_len) = true
  s_Web_len : PySem.W.findIn K (.ref a.c_Web) "__len__" = some (some (.ref a.f_Web_len))
  F_Web_first : Fun K "_first" "Web._first" s_Web_first a.f_Web_first a.d_Web_first
  b_Web_first : Binds K a.d_Web_first P_Web_first []
  k_Web_first : PySem.W.keepIn K (.ref a.f_Web_first) = true
  i_Web_first : PySem.W.isFn K (.ref a.f_Web_first) = true
  m_Web_first : Meth K a.c_Web "_first" a.f_Web_first
  F_Web_can_stand : Fun K "_can_stand" "Web._can_stand" s_Web_can_stand a.f_Web_can_stand a.d_Web_can_stand
  b_Web_can_stand : Binds K a.d_Web_can_stand P_Web_can_stand []
  k_Web_can_stand : PySem.W.keepIn K (.ref a.f_Web_can_stand) = true
  i_Web_can_stand : PySem.W.isFn K (.ref a.f_Web_can_stand) = true
  m_Web_can_stand : Meth K a.c_Web "_can_stand" a.f_Web_can_stand
  F_asked_twice : Fun K "_asked_twice" "_asked_twice" s_asked_twice a.f_asked_twice a.d_asked_twice
  b_asked_twice : Binds K a.d_asked_twice P_asked_twice []
  k_asked_twice : PySem.W.keepIn K (.ref a.f_asked_twice) = true
  g_asked_twice : mg "_asked_twice" = some (.ref a.f_asked_twice)
  F_Web_init : Fun K "__init__" "Web.__init__" s_Web_init a.f_Web_init a.d_Web_init
  k_Web_init : PySem.W.keepIn K (.ref a.f_Web_init) = true
  i_Web_init : PySem.W.isFn K (.ref a.f_Web_init) = true
  vd_Web_init : Vals [V.non] a.ds_Web_init
  bd_Web_init : L2.Binds K a.d_Web_init P_Web_init a.ds_Web_init
  kb_Web_init_start : KBn K a.d_Web_init P_Web_init 3 ["start"] (fun us ws => us ++ ws) (fun us ws => us ++ ws)
  F_NoNode_init : Fun K "__init__" "NoNode.__init__" s_NoNode_init a.f_NoNode_init a.d_NoNode_init
  b_NoNode_init : Binds K a.d_NoNode_init P_NoNode_init []
  k_NoNode_init : PySem.W.keepIn K (.ref a.f_NoNode_init) = true
  i_NoNode_init : PySem.W.isFn K (.ref a.f_NoNode_init) = true
  F_NoPosition_init : Fun K "__init__" "NoPosition.__init__" s_NoPosition_init a.f_NoPosition_init a.d_NoPosition_init
  b_NoPosition_init : Binds K a.d_NoPosition_init P_NoPosition_init []
  k_NoPosition_init : PySem.W.keepIn K (.ref a.f_NoPosition_init) = true
  i_NoPosition_init : PySem.W.isFn K (.ref a.f_NoPosition_init) = true
  F_Web_getitem : Fun K "__getitem__" "Web.__getitem__" s_Web_getitem a.f_Web_getitem a.d_Web_getitem
  b_Web_getitem : Binds K a.d_Web_getitem P_Web_getitem []
  k_Web_getitem : PySem.W.keepIn K (.ref a.f_Web_getitem) = true
  i_Web_getitem : PySem.W.isFn K (.ref a.f_Web_getitem) = true
  s_Web_getitem : PySem.W.findIn K (.ref a.c_Web) "__getitem__" = some (some (.ref a.f_Web_getitem))
  fn_Web_getitem : PySem.W.fnIn K a.f_Web_getitem = true
  F_Web_led_to : Fun K "_led_to" "Web._led_to" s_Web_led_to a.f_Web_led_to a.d_Web_led_to
  b_Web_led_to : Binds K a.d_Web_led_to P_Web_led_to []
  k_Web_led_to : PySem.W.keepIn K (.ref a.f_Web_led_to) = true
  i_Web_led_to : PySem.W.isFn K (.ref a.f_Web_led_to) = true
  m_Web_led_to : Meth K a.c_Web "_led_to" a.f_Web_led_to
  F_Web_reached : Fun K "reached" "Web.reached" s_Web_reached a.f_Web_reached a.d_Web_reached
  b_Web_reached : Binds K a.d_Web_reached P_Web_reached []
  k_Web_reached : PySem.W.keepIn K (.ref a.f_Web_reached) = true
  i_Web_reached : PySem.W.isFn K (.ref a.f_Web_reached) = true
  m_Web_reached : Meth K a.c_Web "reached" a.f_Web_reached
  F_splits : Fun K "splits" "splits" s_splits a.f_splits a.d_splits
  b_splits : Binds K a.d_splits P_splits []
  k_splits : PySem.W.keepIn K (.ref a.f_splits) = true
  g_splits : mg "splits" = some (.ref a.f_splits)
  F_harmless : Fun K "harmless" "harmless" s_harmless a.f_harmless a.d_harmless
  b_harmless : Binds K a.d_harmless P_harmless []
  k_harmless : PySem.W.keepIn K (.ref a.f_harmless) = true
  g_harmless : mg "harmless" = some (.ref a.f_harmless)
  F_l_draw : Fun K "_law_draw" "_law_draw" s_l_draw a.f_l_draw a.d_l_draw
  b_l_draw : Binds K a.d_l_draw P_l_draw []
  k_l_draw : PySem.W.keepIn K (.ref a.f_l_draw) = true
  g_l_draw : mg "_law_draw" = some (.ref a.f_l_draw)
  F_l_target : Fun K "_law_target" "_law_target" s_l_target a.f_l_target a.d_l_target
  b_l_target : Binds K a.d_l_target P_l_target []
  k_l_target : PySem.W.keepIn K (.ref a.f_l_target) = true
  g_l_target : mg "_law_target" = some (.ref a.f_l_target)
  F_l_below : Fun K "_law_below" "_law_below" s_l_below a.f_l_below a.d_l_below
  b_l_below : Binds K a.d_l_below P_l_below []
  k_l_below : PySem.W.keepIn K (.ref a.f_l_below) = true
  g_l_below : mg "_law_below" = some (.ref a.f_l_below)
  F_l_pool : Fun K "_law_pool" "_law_pool" s_l_pool a.f_l_pool a.d_l_pool
  b_l_pool : Binds K a.d_l_pool P_l_pool []
  k_l_pool : PySem.W.keepIn K (.ref a.f_l_pool) = true
  g_l_pool : mg "_law_pool" = some (.ref a.f_l_pool)
  F_l_nodes : Fun K "_law_nodes" "_law_nodes" s_l_nodes a.f_l_nodes a.d_l_nodes
  b_l_nodes : Binds K a.d_l_nodes P_l_nodes []
  k_l_nodes : PySem.W.keepIn K (.ref a.f_l_nodes) = true
  g_l_nodes : mg "_law_nodes" = some (.ref a.f_l_nodes)
  F_l_start : Fun K "_law_start" "_law_start" s_l_start a.f_l_start a.d_l_start
  b_l_start : Binds K a.d_l_start P_l_start []
  k_l_start : PySem.W.keepIn K (.ref a.f_l_start) = true
  g_l_start : mg "_law_start" = some (.ref a.f_l_start)
  F_l_one_web : Fun K "_law_one_web" "_law_one_web" s_l_one_web a.f_l_one_web a.d_l_one_web
  b_l_one_web : Binds K a.d_l_one_web P_l_one_web []
  k_l_one_web : PySem.W.keepIn K (.ref a.f_l_one_web) = true
  g_l_one_web : mg "_law_one_web" = some (.ref a.f_l_one_web)
  F_l_marks : Fun K "_law_marks" "_law_marks" s_l_marks a.f_l_marks a.d_l_marks
  b_l_marks : Binds K a.d_l_marks P_l_marks []
  k_l_marks : PySem.W.keepIn K (.ref a.f_l_marks) = true
  g_l_marks : mg "_law_marks" = some (.ref a.f_l_marks)
  F_l_reached : Fun K "_law_reached" "_law_reached" s_l_reached a.f_l_reached a.d_l_reached
  b_l_reached : Binds K a.d_l_reached P_l_reached []
  k_l_reached : PySem.W.keepIn K (.ref a.f_l_reached) = true
  g_l_reached : mg "_law_reached" = some (.ref a.f_l_reached)
  F_law : Fun K "law" "law" s_law a.f_law a.d_law
  b_law : Binds K a.d_law P_law []
  k_law : PySem.W.keepIn K (.ref a.f_law) = true
  g_law : mg "law" = some (.ref a.f_law)
  g_QUESTIONS : mg "QUESTIONS" = some (.int 48 a.t_QUESTIONS)
  g_MOST_ENDS : mg "MOST_ENDS" = some (.int 60 a.t_MOST_ENDS)
  z_all : mg "all" = none
  z_enumerate : mg "enumerate" = none
  z_int : mg "int" = none
  z_len : mg "len" = none
  z_list : mg "list" = none
  z_range : mg "range" = none
  z_reversed : mg "reversed" = none
  z_set : mg "set" = none
  z_sorted : mg "sorted" = none
  z_tuple : mg "tuple" = none
section
variable {P : Program} {w : World} {K : PySem.W.Frag} {mg : Str → Option Value} {base : Heap} {a : Ad}
def spIsQ : Sp := fun vs H Q _ => ∃ n : Int, vs = [.int n] ∧ Q (.bl (decide (0 ≤ n ∧ n < 48))) H
theorem ok_is_question (T : Txt K mg a) : FnOk P w K mg base CX0 1 a.f_is_question a.d_is_question P_is_question spIsQ := by
  refine T.F_is_question.ok sc_is_question (fun vs H Q E h => ?_) (fun cdv A outer s H vs Q E hr h => ?_)
  · obtain ⟨n, rfl, _⟩ := h
    rfl
  · obtain ⟨n, rfl, q⟩ := h
    refine ⟨_, (pss_one (ps_ret (pe_chain op_le op_lt pe_int (pv 0) (pe_glob (v := .int 48) (by rfl) T.g_QUESTIONS ⟨_, rfl⟩)))), ?_⟩
    refine ⟨_, rfl, _, _, rfl, rfl, _, rfl, ?_⟩
    by_cases h0 : (0 : Int) ≤ n
    · rw [decide_eq_true h0]
      refine iteT ⟨_, _, rfl, rfl, ?_⟩
      show Q (.bl (decide (n < 48))) H
      rw [show decide (n < 48) = decide (0 ≤ n ∧ n < 48) by rw [Bool.eq_iff_iff]; simp [h0]]
      exact q
    · rw [decide_eq_false h0]
      refine iteF ?_
      rw [show decide (0 ≤ n ∧ n < 48) = false by simp [h0]] at q
      exact q
theorem ok_Web_contains (T : Txt K mg a) : FnOk P w K mg base CX0 1 a.f_Web_contains a.d_Web_contains P_Web_contains (spIn a.c_Web) := by
  refine T.F_Web_contains.ok sc_Web_contains (fun vs H Q E h => ?_) (fun cdv A outer s H vs Q E hr h => ?_)
  · obtain ⟨x, dx, fs, nt, xs, e, z, rfl, _⟩ := h
    rfl
  · obtain ⟨x, dx, fs, nt, xs, e, z, rfl, hx, he, hn, hnt, k⟩ := h
    refine ⟨_, (pss_one (ps_ret (pe_chain op_le op_lt (pe_un un_neg (pe_fld (pv 0) (by rfl))) (pv 1) (pe_callB call_len_seq (by rfl) T.z_len (by decide +kernel) (pa_cons (pe_fld (pv 0) (by rfl)) pa_nil))))), ?_⟩
    refine ⟨_, rfl, x, _, dx, _, _, rfl, hx, T.cl_Web, T.nA_Web_ends, he, _, rfl, _, rfl, _, _, rfl, rfl, _, rfl, ?_⟩
    by_cases h0 : -e ≤ z
    · rw [decide_eq_true h0]
      refine iteT ⟨_, rfl, x, _, dx, _, _, rfl, hx, T.cl_Web, T.nA_Web_nodes, hn, nt, _, rfl, .inr (tup_of hnt), _, _, rfl, rfl, ?_⟩
      rw [show decide (-e ≤ z ∧ z < (xs.length : Nat)) = decide (z < (xs.length : Nat)) by rw [Bool.eq_iff_iff]; simp [h0]] at k
      exact k
    · rw [decide_eq_false h0]
      refine iteF ?_
      rw [show decide (-e ≤ z ∧ z < (xs.length : Nat)) = false by simp [h0]] at k
      exact k
theorem ok_Web_len (T : Txt K mg a) : FnOk P w K mg base CX0 1 a.f_Web_len a.d_Web_len P_Web_len (spLenW a.c_Web) := by
  refine T.F_Web_len.ok sc_Web_len (fun vs H Q E h => ?_) (fun cdv A outer s H vs Q E hr h => ?_)
  · obtain ⟨x, dx, nt, fs, xs, rfl, _⟩ := h
    rfl
  · obtain ⟨x, dx, nt, fs, xs, rfl, hx, hn, hnt, k⟩ := h
    refine ⟨_, (pss_one (ps_ret (pe_callB call_len_seq (by rfl) T.z_len (by decide +kernel) (pa_cons (pe_fld (pv 0) (by rfl)) pa_nil)))), ?_⟩
    exact ⟨_, rfl, x, _, dx, _, _, rfl, hx, T.cl_Web, T.nA_Web_nodes, hn, nt, _, rfl, .inr (tup_of hnt), k⟩
theorem ok_Web_first (T : Txt K mg a) : FnOk P w K mg base CX0 1 a.f_Web_first a.d_Web_first P_Web_first (spFirst a.c_Web) := by
  refine T.F_Web_first.ok sc_Web_first (fun vs H Q E h => ?_) (fun cdv A outer s H vs Q E hr h => ?_)
  · obtain ⟨x, dx, nt, fs, xs, rfl, _⟩ := h
    rfl
  · obtain ⟨x, dx, nt, fs, xs, rfl, hx, hn, hnt, k⟩ := h
    refine ⟨_, (pss_one (ps_ret (pe_ifExp (pt_truth (pe_fld (pv 0) (by rfl)) (by intro _; rfl)) pe_int (pe_un un_neg pe_int)))), ?_⟩
    refine ⟨_, rfl, x, _, dx, _, _, rfl, hx, T.cl_Web, T.nA_Web_nodes, hn, _, .inr (.inl ⟨xs, tup_of hnt, rfl⟩), ?_⟩
    cases xs with
    | nil => exact iteF ⟨_, rfl, k⟩
    | cons y r => exact iteT k
theorem ok_Web_can_stand (T : Txt K mg a) : FnOk P w K mg base CX0 2 a.f_Web_can_stand a.d_Web_can_stand P_Web_can_stand (spStand a.c_Web) := by
  refine T.F_Web_can_stand.ok sc_Web_can_stand (fun vs H Q E h => ?_) (fun cdv A outer s H vs Q E hr h => ?_)
  · obtain ⟨x, dx, nt, nd, fs, xs, e, k0, row, rfl, _⟩ := h
    rfl
  · obtain ⟨x, dx, nt, nd, fs, xs, e, k0, row, rfl, hx, he, hn, hnt, hnd, ⟨q, r, rfl, hl, q0, q1, ht⟩, k⟩ := h
    refine ⟨_, (pss_cons (ps_if (PW.pt (pw_or (pt_cmpR op_notIn_seq (pe_callB call_len_seq (by rfl) T.z_len (by decide +kernel) (pa_cons (pv 2) pa_nil)) (pe_tup (pa_cons pe_int (pa_cons pe_int pa_nil))) (by with_unfolding_all rfl)) (pw_or1 (pt_not (pt_val (pe_call (ok_is_question T) (hr.mono (by decide)) (by rfl) T.g_is_question T.k_is_question T.b_is_question .nil pass0 (pa_cons (pe_ix ix_tup (pv 2) pe_int (by intro _ _; rfl)) pa_nil)))))))
    (pss_one (ps_ret pe_bl))
    pss_nil)
  (pss_one (ps_ret (pe_callB (cr_all rfl) (by rfl) T.z_all (by decide +kernel) (pa_cons (pe_lc (own := [("target", 3)]) (g := gName 3) (tt := tYes) (te := (tAndV (tOp (rOwnIn a.c_Web (spIn a.c_Web) E0 false) (tVar 3) (tVar 0)) (tNotV (tChain (rI0 fun i j => .bl (decide (i ≤ j))) (rI0 fun i j => .bl (decide (i ≤ j))) (tC (.int 0)) (tVar 3) (tVar 1))))) rfl sc_Web_can_stand.nd (pi_tup (pe_slice sl_tupA (pv 2) (po_some pe_int) po_none)) (blkOk_by (N := N_Web_can_stand) (sc := defScope s_Web_can_stand) (by decide +kernel)) (fun _ _ _ _ _ => pg_name (i := 3) sc_Web_can_stand.nd rfl (Or.inl rfl)) (fun _ _ _ _ _ => pts_nil) (fun _ _ _ _ _ => by exact (pe_and (pe_cmpR (in_own (ok_Web_contains T) (hr.mono (by decide)) T.s_Web_contains T.i_Web_contains T.b_Web_contains pass0) (pv 3) (pv 0) (by with_unfolding_all rfl)) (pe_one (pe_not (pe_chain op_le op_le pe_int (pv 3) (pv 1))))))) pa_nil))))), ?_⟩
    refine ⟨_, rfl, nd, _, rfl, .inr (tup_of hnd), by show 2 ≤ sizeLine; decide, fun t nt2 => ?_⟩
    have e1 := same_upd nt2 (o := .tup [.int 3, .int 4])
    have hlen : (((q :: r).map V.int).length : Int) ∈ [3, 4] := by
      rw [List.length_map, List.length_cons]
      rcases hl with hl | hl <;> rw [hl] <;> decide
    refine in_k (neg := true) (ns := [3, 4]) (.inr (tup_of upd_same)) ⟨_, rfl, ?_⟩
    rw [decide_eq_true hlen]
    refine iteF ?_
    refine ⟨_, rfl, nd, _, 0, _, rfl, rfl, tup_of (e1 _ _ hnd), atI0, q, rfl, ?_⟩
    rw [decide_eq_true ⟨q0, q1⟩]
    refine ⟨_, rfl, iteF ?_⟩
    refine ⟨_, rfl, _, rfl, ?_⟩
    unfold tNoPart
    refine rest_row (K := K) (e1 _ _ hnd) ?_
    intro p np
    have e2 := e1.trans (same_upd np (o := .tup (r.map V.int)))
    refine ⟨p, rfl, ⟨_, tup_of upd_same⟩, fun D nD => ?_⟩
    have e3 := e2.trans (same_upd nD (o := .lst []))
    refine lc_tup (K := K) (a := p) (xs := r.map V.int) (fun i H1 => Same (upd (upd H t (.tup [.int 3, .int 4])) p (.tup (r.map V.int))) H1 ∧ H1 D = some (.lst ((List.replicate i true).map V.bl))) ⟨same_upd nD, upd_same⟩ (fun i H1 _ h => h.1.seqT (tup_of upd_same)) (fun i v H1 hi h => ?_) (fun H1 h => ?_)
    · obtain ⟨z, hz, rfl⟩ := get_map_int hi
      obtain ⟨f1, h1⟩ := h
      obtain ⟨z0, z1, z2⟩ := ht z (List.mem_of_getElem? hz)
      have f2 := e2.trans f1
      refine ⟨rfl, tyes ?_⟩
      refine ⟨_, rfl, _, rfl, x, dx, _, rfl, f2 _ _ hx, x, dx, fs, nt, xs, e, z, rfl, f2 _ _ hx, he, hn, f2 _ _ hnt, _, rfl, _, rfl, ?_⟩
      rw [decide_eq_true ⟨z0, z1⟩]
      refine iteT ?_
      have last : ∃ acc, H1 D = some (.lst acc) ∧ acc.length < sizeLine ∧ (Same (upd (upd H t (.tup [.int 3, .int 4])) p (.tup (r.map V.int))) (upd H1 D (.lst (acc ++ [V.bl true]))) ∧ upd H1 D (.lst (acc ++ [V.bl true])) D = some (.lst ((List.replicate (i + 1) true).map V.bl))) := by
        refine ⟨_, h1, ?_, f1.mut nD, ?_⟩
        · rw [List.length_map, List.length_replicate, sizeLine_eq]
          have := (List.getElem?_eq_some_iff.mp hz).1
          omega
        · rw [upd_same, List.replicate_succ', List.map_append]
          rfl
      refine ⟨_, rfl, _, _, rfl, rfl, _, rfl, ?_⟩
      by_cases g0 : (0 : Int) ≤ z
      · have g1 : ¬ z ≤ (k0 : Int) := fun g1 => z2 ⟨g0, g1⟩
        rw [decide_eq_true g0]
        refine iteT ⟨_, rfl, _, _, rfl, rfl, _, rfl, ?_⟩
        rw [decide_eq_false g1]
        exact last
      · rw [decide_eq_false g0]
        exact iteF ⟨_, rfl, last⟩
    · obtain ⟨f1, h1⟩ := h
      refine ⟨D, _, rfl, lst_of h1, ?_⟩
      rw [show (List.replicate ((r.map V.int).length) true).all id = true by rw [List.all_eq_true]; intro y hy; rw [List.eq_of_mem_replicate hy]; rfl]
      exact k H1 (e2.trans f1)
theorem ok_asked_twice (T : Txt K mg a) : FnOk P w K mg base CX0 1 a.f_asked_twice a.d_asked_twice P_asked_twice spTwice := by
  refine T.F_asked_twice.ok sc_asked_twice (fun vs H Q E h => ?_) (fun cdv A outer s H vs Q E hr h => ?_)
  · obtain ⟨nt, as, rows, e, rfl, _⟩ := h
    rfl
  · obtain ⟨nt, as, rows, e, rfl, hnt, hrows, hlen, hrow, ⟨B, hB⟩, k⟩ := h
    refine ⟨_, (Evl.pss_cut (ps_set (i := 1) sc_asked_twice.nd rfl (Or.inl rfl) (pe_op op_rep (pe_lst (pa_cons pe_int pa_nil)) (pe_callB call_len_seq (by rfl) T.z_len (by decide +kernel) (pa_cons (pv 0) pa_nil))))
  (Evl.pss_cut (ps_set (i := 2) sc_asked_twice.nd rfl (Or.inl rfl) pe_non)
  (Evl.pss_cut (ps_for PassesOwn.never rfl (pi_revR (by rfl) T.z_reversed (prg_1 (by rfl) T.z_range (pe_callB call_len_seq (by rfl) T.z_len (by decide +kernel) (pa_cons (pv 0) pa_nil)))) (pg_name (i := 3) sc_asked_twice.nd rfl (Or.inl rfl))
    (Evl.pss_cut (ps_set (i := 4) sc_asked_twice.nd rfl (Or.inl rfl) pe_int)
  (Evl.pss_cut (ps_for PassesOwn.never rfl (pi_tup (pe_slice sl_tupA (pe_ix ix_tup (pv 0) (pv 3) (by intro _ _; rfl)) (po_some pe_int) po_none)) (pg_name (i := 5) sc_asked_twice.nd rfl (Or.inl rfl))
    (pss_one (ps_if (pt_cmpR op_ge (pv 5) pe_int (nomark _))
    (pss_one (ps_set (i := 4) sc_asked_twice.nd rfl (Or.inl rfl) (pe_op op_or (pv 4) (pe_ix ix_list (pv 1) (pv 5) (by intro _ _; rfl)))))
    pss_nil)))
  (Evl.pss_cut (ps_set (i := 6) sc_asked_twice.nd rfl (Or.inl rfl) (pe_op op_shl pe_int (pe_ix ix_tup (pe_ix ix_tup (pv 0) (pv 3) (by intro _ _; rfl)) pe_int (by intro _ _; rfl))))
  (Evl.pss_cut (ps_if (pt_truth (pe_op op_and (pv 4) (pv 6)) (by intro _; rfl))
    (pss_one (ps_set (i := 2) sc_asked_twice.nd rfl (Or.inl rfl) (pv 3)))
    pss_nil)
  (pss_one (ps_asg (pe_op op_or (pv 4) (pv 6)) (pg_sub (pv 1) (pv 3) set_list))))))))
  (pss_one (ps_ret (pv 2)))))), ?_⟩
    have elen : (as.map V.ref).length = rows.length := by rw [List.length_map, hrows.1]
    refine ⟨fun σ H1 => ∃ M, σ = [some (.ref nt), some (.ref M), none, none, none, none, none] ∧ Same H H1 ∧ H M = none ∧ H1 M = some (.lst ((List.replicate rows.length 0).map natV)), ?_, ?_⟩
    · refine ⟨by show 1 ≤ sizeLine; decide, fun q nq => ?_⟩
      have e1 := same_upd nq (o := .lst [.int 0])
      refine ⟨_, rfl, nt, _, rfl, .inr (tup_of (e1 _ _ hnt)), q, _, _, rfl, rfl, upd_same, by omega, by rw [elen]; omega, ?_, fun M nM => ?_⟩
      · rw [elen, Int.toNat_natCast, sizeLine_eq]
        show 1 * _ ≤ _
        omega
      · refine ⟨M, rfl, e1.trans (same_upd nM), e1.free nM, ?_⟩
        rw [upd_same, elen, Int.toNat_natCast, List.flatten_replicate_singleton, List.map_replicate]
        rfl
    rintro σ H1 ⟨M, rfl, e1, nM, hM⟩
    refine ⟨fun σ H2 => σ = [some (.ref nt), some (.ref M), some .non, none, none, none, none] ∧ H2 = H1, ⟨rfl, rfl⟩, ?_⟩
    rintro σ H2 ⟨rfl, rfl⟩
    refine ⟨fun σ H3 => ∃ v3 v4 v5 v6, σ = [some (.ref nt), some (.ref M), some .non, v3, v4, v5, v6] ∧ Same H H3, ?_, ?_⟩
    · refine ⟨_, rfl, nt, _, rfl, .inr (tup_of (e1 _ _ hnt)), _, rfl, by decide, by decide, by omega, by rw [elen]; omega, ?_⟩
      rw [elen]
      have eN : ((rows.length : Int) - 0).toNat = rows.length := by omega
      rw [eN]
      refine for_rangeC (lo := 0 + (rows.length : Int) - 1) (c := -1) (n := rows.length) (fun i σ H3 => ∃ v3 v4 v5 v6, ∃ ms : List Nat, σ = [some (.ref nt), some (.ref M), some .non, v3, v4, v5, v6] ∧ Same H H3 ∧ H3 M = some (.lst (ms.map natV)) ∧ ms.length = rows.length ∧ ∀ j m, rows.length - i ≤ j → ms[j]? = some m → MaskOk B j m)
        ⟨_, _, _, _, _, rfl, e1, hM, List.length_replicate, fun j m h1 h2 => ?_⟩ ?_ (fun σ H3 ⟨v3, v4, v5, v6, _, h, e, _⟩ => ⟨v3, v4, v5, v6, h, e⟩)
      · have := (List.getElem?_eq_some_iff.mp h2).1
        rw [List.length_replicate] at this
        omega
      · rintro i σ H3 hi ⟨v3, v4, v5, v6, ms, rfl, e3, hM3, hml, hms⟩
        obtain ⟨j, hj⟩ : ∃ j : Nat, rows.length = j + i + 1 := ⟨rows.length - i - 1, by omega⟩
        rw [show 0 + (rows.length : Int) - 1 + (i : Int) * -1 = (j : Int) by omega]
        have hjn : j < rows.length := by omega
        obtain ⟨aj, row, haj, hrj, hrw⟩ := rows_get hrows hjn
        obtain ⟨q, r, rfl, hl, q0, q1, ht⟩ := hrow j row hrj
        obtain ⟨hq, hcert⟩ := hB j q r hrj
        have hnt3 := e3 _ _ hnt
        have hrw3 := e3 _ _ hrw
        have haj3 : (as.map V.ref)[j]? = some (.ref aj) := by rw [List.getElem?_map, haj]; rfl
        -- behind = 0
        refine ⟨fun σ H4 => σ = [some (.ref nt), some (.ref M), some .non, some (.int j), some (.int 0), v5, v6] ∧ H4 = H3, ⟨rfl, rfl⟩, ?_⟩
        rintro σ H4 ⟨rfl, rfl⟩
        -- behind
        refine ⟨fun σ H5 => ∃ (b : Nat) (v5 : Option V), σ = [some (.ref nt), some (.ref M), some .non, some (.int j), some (.int b), v5, v6] ∧ Same H4 H5 ∧ ∀ z : Nat, b.testBit z = true → ∃ t ∈ r, 0 ≤ t ∧ B t.toNat z, ?_, ?_⟩
        · refine ⟨_, rfl, _, rfl, nt, _, _, _, rfl, rfl, tup_of hnt3, at_tup haj3, _, rfl, ?_⟩
          unfold tNoPart
          refine rest_row (K := K) hrw3 ?_
          intro p np
          have e5 := same_upd np (o := .tup (r.map V.int))
          refine ⟨p, rfl, ⟨_, tup_of upd_same⟩, for_tup (K := K) (a := p) (xs := r.map V.int) (fun i2 σ H5 => ∃ (b : Nat) (v5 : Option V), σ = [some (.ref nt), some (.ref M), some .non, some (.int j), some (.int b), v5, v6] ∧ Same (upd H4 p (.tup (r.map V.int))) H5 ∧ ∀ z : Nat, b.testBit z = true → ∃ t ∈ r.take i2, 0 ≤ t ∧ B t.toNat z)
            ⟨0, _, rfl, Same.refl _, fun z h => by rw [Nat.zero_testBit] at h; cases h⟩ (fun i2 σ H5 _ ⟨_, _, _, e, _⟩ => e.seqT (tup_of upd_same)) ?_ ?_⟩
          · rintro i2 y σ H5 hi2 ⟨b, v5, rfl, e6, hb⟩
            obtain ⟨t, htt, rfl⟩ := get_map_int hi2
            obtain ⟨t1, t2, t3⟩ := ht t (List.mem_of_getElem? htt)
            refine ⟨_, rfl, _, _, rfl, rfl, _, rfl, ite2 (fun g => ?_) (fun g => ?_)⟩
            · have g : 0 ≤ t := of_decide_eq_true g
              obtain ⟨u, rfl⟩ : ∃ u : Nat, t = (u : Int) := ⟨t.toNat, by omega⟩
              have hu : u < ms.length := by omega
              have hmu : ms[u]? = some ms[u] := List.getElem?_eq_getElem hu
              have hMu := hms u _ (by omega) hmu
              have hM5 := (e5.trans e6) _ _ hM3
              refine ⟨_, rfl, _, rfl, _, rfl, M, _, _, _, rfl, rfl, lst_of hM5, atI_nat (get_natV hmu), _, _, rfl, rfl, ?_⟩
              refine ⟨b ||| ms[u], some (.int (u : Int)), by show [_, _, _, _, some (V.int (Builtin.bitOr (b : Int) ((ms[u] : Nat) : Int))), _, _] = _; rw [or_nat], e6, fun z hz => ?_⟩
              rw [Nat.testBit_or, Bool.or_eq_true] at hz
              rw [take_get htt]
              rcases hz with hz | hz
              · obtain ⟨t', m', h'⟩ := hb z hz
                exact ⟨t', List.mem_append.mpr (.inl m'), h'⟩
              · exact ⟨_, List.mem_append.mpr (.inr (List.mem_singleton.mpr rfl)), g, hMu z hz⟩
            · refine ⟨b, _, rfl, e6, fun z hz => ?_⟩
              obtain ⟨t', m', h'⟩ := hb z hz
              rw [take_get htt]
              exact ⟨t', List.mem_append.mpr (.inl m'), h'⟩
          · rintro σ H5 ⟨b, v5, rfl, e6, hb⟩
            rw [List.length_map, List.take_length] at hb
            exact ⟨b, v5, rfl, e5.trans e6, hb⟩
        rintro σ H5 ⟨b, v5, rfl, e5, hb⟩
        have hnt5 := e5 _ _ hnt3
        have hrw5 := e5 _ _ hrw3
        have hM5 := e5 _ _ hM3
        obtain ⟨qn, rfl⟩ : ∃ qn : Nat, q = (qn : Int) := ⟨q.toNat, by omega⟩
        have nb : b.testBit qn = false := by
          cases hb2 : b.testBit qn with
          | false => rfl
          | true =>
            obtain ⟨t, m, t0, ht2⟩ := hb qn hb2
            exact absurd ht2 (hcert t m t0).1
        -- own
        refine ⟨fun σ H6 => σ = [some (.ref nt), some (.ref M), some .non, some (.int j), some (.int b), v5, some (.int ((2 ^ qn : Nat) : Int))] ∧ H6 = H5, ?_, ?_⟩
        · refine ⟨_, rfl, _, rfl, nt, _, _, _, rfl, rfl, tup_of hnt5, at_tup haj3, aj, _, 0, _, rfl, rfl, tup_of hrw5, atI0, 1, (qn : Int), rfl, rfl, ⟨by omega, by omega, by decide⟩, ?_, rfl⟩
          show [_, _, _, _, _, _, some (V.int (1 * 2 ^ (qn : Int).toNat))] = _
          rw [show (1 : Int) * 2 ^ (qn : Int).toNat = ((2 ^ qn : Nat) : Int) by rw [Int.toNat_natCast, Int.one_mul, Int.natCast_pow]; rfl]
        rintro σ H6 ⟨rfl, rfl⟩
        refine ⟨fun σ H7 => σ = [some (.ref nt), some (.ref M), some .non, some (.int j), some (.int b), v5, some (.int ((2 ^ qn : Nat) : Int))] ∧ H7 = H6, ?_, ?_⟩
        · refine ⟨_, rfl, _, rfl, _, _, rfl, rfl, _, rfl, ?_⟩
          rw [and_bit nb]
          exact iteF ⟨rfl, rfl⟩
        rintro σ H7 ⟨rfl, rfl⟩
        have hjm : j < ms.length := by omega
        refine ⟨_, rfl, _, rfl, _, _, rfl, rfl, _, rfl, _, rfl, M, _, (j : Int), j, rfl, rfl, hM5, ?_, ?_⟩
        · unfold ixN
          rw [if_pos (by omega), if_pos (by rw [List.length_map]; omega), Int.toNat_natCast]
        · refine ⟨_, _, _, _, ms.set j (b ||| 2 ^ qn), rfl, (e3.trans e5).mut nM, ?_, by rw [List.length_set]; exact hml, fun u m hu hm => ?_⟩
          · have ev : V.int (Builtin.bitOr (b : Int) ((2 ^ qn : Nat) : Int)) = natV (b ||| 2 ^ qn) := by rw [or_nat]; rfl
            rw [upd_same, List.map_set]
            exact congrArg (fun v => some (HO.lst ((ms.map natV).set j v))) ev
          · by_cases huj : j = u
            · subst huj
              rw [List.getElem?_set_self hjm] at hm
              obtain rfl := Option.some.inj hm
              intro z hz
              rw [Nat.testBit_or, Bool.or_eq_true] at hz
              rcases hz with hz | hz
              · obtain ⟨t, m, t0, ht2⟩ := hb z hz
                exact (hcert t m t0).2 _ ht2
              · rw [Nat.testBit_two_pow, decide_eq_true_eq] at hz
                subst hz
                exact hq
            · rw [List.getElem?_set_ne huj] at hm
              exact hms u m (by omega) hm
    · rintro σ H3 ⟨v3, v4, v5, v6, rfl, e3⟩
      exact ⟨_, rfl, k H3 e3⟩
theorem ok_Web_init (T : Txt K mg a) : FnOk P w K mg base CX0 3 a.f_Web_init a.d_Web_init P_Web_init (spWebInit K a.c_Web) := by
  refine T.F_Web_init.ok sc_Web_init (fun vs H Q E h => ?_) (fun cdv A outer s H vs Q E hr h => ?_)
  · obtain ⟨x, dx, q, as, rows, e, o, v, rfl, _⟩ := h
    rfl
  · obtain ⟨x, dx, q, as, rows, e, o, v, rfl, hx, hq, hal, hrow, G, hv, k⟩ := h
    refine ⟨_, (Evl.pss_cut (ps_if (pt_not (pt_chain op_le op_le pe_int (pv 2) (pe_glob (v := .int 60) (by rfl) T.g_MOST_ENDS ⟨_, rfl⟩)))
    (pss_one ps_never)
    pss_nil)
  (Evl.pss_cut (ps_fld (pv 0) (pe_callTy call_tuple_of (by rfl) T.z_tuple (by decide +kernel) (pa_cons (pe_lc (own := [("node", 5)]) (g := gName 5) (tt := tYes) (te := (tCB (fun xs H Q => ∃ p ys, xs = [.ref p] ∧ ((SqL K H p ys ∧ ∀ l, H l = none → Q (.ref l) (upd H l (.tup ys))) ∨ (SqT K H p ys ∧ Q (.ref p) H))) (tCons (tVar 5) tNil))) rfl sc_Web_init.nd (pi_list (pv 1)) (blkOk_by (N := N_Web_init) (sc := defScope s_Web_init) (by decide +kernel)) (fun _ _ _ _ _ => pg_name (i := 5) sc_Web_init.nd rfl (Or.inl rfl)) (fun _ _ _ _ _ => pts_nil) (fun _ _ _ _ _ => by exact (pe_callTy call_tuple_of (by rfl) T.z_tuple (by decide +kernel) (pa_cons (pv 5) pa_nil)))) pa_nil)) rfl)
  (Evl.pss_cut (ps_fld (pv 0) (pv 2) rfl)
  (Evl.pss_cut (ps_for PassesOwn.never rfl (pi_enumT (by rfl) T.z_enumerate (pa_cons (pe_fld (pv 0) (by rfl)) pa_nil)) (pg_tup rfl (pgs_cons (pg_name (i := 4) sc_Web_init.nd rfl (Or.inl rfl)) (pgs_cons (pg_name (i := 5) sc_Web_init.nd rfl (Or.inl rfl)) pgs_nil)))
    (pss_one (ps_if (pt_not (pt_val (pe_meth (pv 0) T.cl_Web T.m_Web_can_stand (ok_Web_can_stand T) (hr.mono (by decide)) T.b_Web_can_stand .nil pass0 (pa_cons (pv 4) (pa_cons (pv 5) pa_nil)))))
    (pss_one ps_never)
    pss_nil)))
  (Evl.pss_cut (ps_fld (pv 0) (pe_ifExp (pt_cmpR op_isN (pv 3) pe_non (nomark _)) (pe_meth0 (pv 0) T.cl_Web T.m_Web_first (ok_Web_first T) (hr.mono (by decide)) T.b_Web_first .nil pass0) (pv 3)) rfl)
  (Evl.pss_cut (ps_if (pt_cmpR (notIn_own (ok_Web_contains T) (hr.mono (by decide)) T.s_Web_contains T.i_Web_contains T.b_Web_contains pass0) (pe_fld (pv 0) (by rfl)) (pv 0) (by with_unfolding_all rfl))
    (pss_one ps_never)
    pss_nil)
  (Evl.pss_cut (ps_set (i := 6) sc_Web_init.nd rfl (Or.inl rfl) (pe_call (ok_asked_twice T) (hr.mono (by decide)) (by rfl) T.g_asked_twice T.k_asked_twice T.b_asked_twice .nil pass0 (pa_cons (pe_fld (pv 0) (by rfl)) pa_nil)))
  (pss_one (ps_if (pt_cmpR op_notN (pv 6) pe_non (nomark _))
    (pss_one ps_never)
    pss_nil))))))))), ?_⟩
    have glen := G.len
    -- the ends
    refine ⟨fun σ H1 => σ = [some (.ref x), some (.ref q), some (.int e), some v, none, none, none] ∧ H1 = H, ?_, ?_⟩
    · refine ⟨_, rfl, _, _, rfl, rfl, _, rfl, ?_⟩
      rw [decide_eq_true G.e1]
      refine iteT ⟨_, _, rfl, rfl, _, rfl, ?_⟩
      rw [decide_eq_true G.e2]
      exact iteF ⟨rfl, rfl⟩
    rintro σ H1 ⟨rfl, rfl⟩
    -- the nodes
    refine ⟨fun σ H2 => ∃ nt bs, σ = [some (.ref x), some (.ref q), some (.int e), some v, none, none, none] ∧ H2 x = some (.ins a.c_Web dx [("nodes", .ref nt)]) ∧ H2 nt = some (.tup (bs.map V.ref)) ∧ RowsAt H2 bs rows ∧ ∀ b u, b ≠ x → H1 b = some u → H2 b = some u, ?_, ?_⟩
    · refine ⟨_, rfl, q, rfl, ⟨_, hq⟩, fun D nD => ?_⟩
      refine lc_list (K := K) (a := q) (xs := as.map V.ref) (fun i H2 => Same H1 H2 ∧ ∃ bs : List Addr, bs.length = i ∧ H2 D = some (.lst (bs.map V.ref)) ∧ ∀ (j : Nat) b row, bs[j]? = some b → rows[j]? = some row → H2 b = some (.tup (row.map V.int))) ⟨same_upd nD, [], rfl, upd_same, fun j b row h => by simp at h⟩
        (fun i H2 _ h => by
          rcases hq with (h1 | ⟨u, h1⟩) | h1
          · exact .inl (.inl (h.1 _ _ h1))
          · exact .inl (.inr ⟨u, h.1 _ _ h1⟩)
          · exact .inr h1) (fun i y H2 hi h => ?_) (fun H2 h => ?_)
      · obtain ⟨e2, bs, hbl, hD, hbs⟩ := h
        obtain ⟨ai, hai, rfl⟩ : ∃ ai, as[i]? = some ai ∧ y = .ref ai := by
          rw [List.getElem?_map] at hi
          cases hh : as[i]? with
          | none => rw [hh] at hi; cases hi
          | some z => rw [hh] at hi; exact ⟨z, rfl, (Option.some.inj hi).symm⟩
        have hil : i < rows.length := by rw [← hal]; exact (List.getElem?_eq_some_iff.mp hai).1
        have hri : rows[i]? = some rows[i] := List.getElem?_eq_getElem hil
        have hin := (hrow i ai _ hai hri).same e2
        have fin : ∀ (b : Addr) (H3 : Hp), Same H2 H3 → H3 b = some (.tup ((rows[i]).map V.int)) → ∃ acc, H3 D = some (.lst acc) ∧ acc.length < sizeLine ∧ (Same H1 (upd H3 D (.lst (acc ++ [V.ref b]))) ∧ ∃ bs : List Addr, bs.length = i + 1 ∧ upd H3 D (.lst (acc ++ [V.ref b])) D = some (.lst (bs.map V.ref)) ∧ ∀ (j : Nat) b' row, bs[j]? = some b' → rows[j]? = some row → upd H3 D (.lst (acc ++ [V.ref b])) b' = some (.tup (row.map V.int))) := by
          intro b H3 e3 hb
          have hD3 := e3 _ _ hD
          have nDb : ∀ b' (zs : List V), H3 b' = some (.tup zs) → b' ≠ D := fun b' zs h => ne_of h hD3 (by intro z; cases z)
          refine ⟨_, hD3, by rw [List.length_map, sizeLine_eq]; omega, (e2.trans e3).mut nD, bs ++ [b], by rw [List.length_append, hbl]; rfl, by rw [upd_same, List.map_append]; rfl, fun j b' row h1 h2 => ?_⟩
          by_cases hj : j < bs.length
          · rw [List.getElem?_append_left hj] at h1
            have := e3 _ _ (hbs j b' row h1 h2)
            rw [upd_ne (nDb _ _ this)]
            exact this
          · rw [List.getElem?_append_right (by omega)] at h1
            have hj0 : j - bs.length = 0 := by
              have := (List.getElem?_eq_some_iff.mp h1).1
              rw [List.length_singleton] at this
              omega
            rw [hj0] at h1
            obtain rfl : b = b' := Option.some.inj h1
            have ej : j = i := by omega
            subst ej
            rw [hri] at h2
            obtain rfl := Option.some.inj h2
            rw [upd_ne (nDb _ _ hb)]
            exact hb
        refine ⟨rfl, tyes ?_⟩
        rcases hin with hin | hin
        · exact ⟨_, rfl, ai, _, rfl, .inr ⟨tup_of hin, fin ai H2 (Same.refl _) hin⟩⟩
        · exact ⟨_, rfl, ai, _, rfl, .inl ⟨lst_of hin, fun b nb => fin b _ (same_upd nb) upd_same⟩⟩
      · obtain ⟨e2, bs, hbl, hD, hbs⟩ := h
        refine ⟨D, _, rfl, .inl ⟨lst_of hD, fun nt nnt => ?_⟩⟩
        have e3 := e2.trans (same_upd nnt (o := .tup (bs.map V.ref)))
        have hx3 := e3 _ _ hx
        refine ⟨_, rfl, x, _, dx, [], rfl, hx3, T.cl_Web, T.nA_Web_nodes, by decide, ?_⟩
        have nxt : nt ≠ x := fun z => by
          subst z
          rw [e2 _ _ hx] at nnt
          cases nnt
        refine ⟨nt, bs, rfl, by rw [upd_same, put1], by rw [upd_ne nxt, upd_same], ⟨by rw [hbl, List.length_map]; exact hal, fun j b row h1 h2 => ?_⟩, fun b u nb hb => by rw [upd_ne nb]; exact e3 _ _ hb⟩
        have hb := hbs j b row h1 h2
        rw [upd_ne (ne_of ((same_upd nnt) _ _ hb) hx3 (by intro z; cases z))]
        exact (same_upd nnt) _ _ hb
    rintro σ H2 ⟨nt, bs, rfl, hx2, hnt2, hbs2, k2⟩
    have nbx : ∀ {H : Hp} {fs : List (Str × V)}, H x = some (.ins a.c_Web dx fs) → ∀ {b : Addr} {zs : List V}, H b = some (.tup zs) → b ≠ x := fun hx b zs h => ne_of h hx (by intro z; cases z)
    -- the ends are kept
    refine ⟨fun σ H3 => σ = [some (.ref x), some (.ref q), some (.int e), some v, none, none, none] ∧ H3 x = some (.ins a.c_Web dx [("nodes", .ref nt), ("ends", .int e)]) ∧ H3 nt = some (.tup (bs.map V.ref)) ∧ RowsAt H3 bs rows ∧ ∀ b u, b ≠ x → H1 b = some u → H3 b = some u, ?_, ?_⟩
    · refine ⟨_, rfl, _, rfl, x, _, dx, _, rfl, hx2, T.cl_Web, T.nA_Web_ends, by show 1 < 1000; decide, rfl, by rw [upd_same, put2], by rw [upd_ne (nbx hx2 hnt2)]; exact hnt2, ⟨hbs2.1, fun j b row h1 h2 => ?_⟩, fun b u nb hb => by rw [upd_ne nb]; exact k2 b u nb hb⟩
      rw [upd_ne (nbx hx2 (hbs2.2 j b row h1 h2))]
      exact hbs2.2 j b row h1 h2
    rintro σ H3 ⟨rfl, hx3, hnt3, hbs3, k3⟩
    -- each can stand
    refine ⟨fun σ H4 => ∃ v4 v5, σ = [some (.ref x), some (.ref q), some (.int e), some v, v4, v5, none] ∧ Same H3 H4, ?_, ?_⟩
    · refine ⟨_, rfl, x, _, dx, _, _, rfl, hx3, T.cl_Web, T.nA_Web_nodes, rfl, nt, _, rfl, tup_of hnt3, ?_⟩
      refine for_enumT (K := K) (a := nt) (xs := bs.map V.ref) (fun i σ H4 => ∃ v4 v5, σ = [some (.ref x), some (.ref q), some (.int e), some v, v4, v5, none] ∧ Same H3 H4) ⟨_, _, rfl, Same.refl _⟩ (fun i σ H4 _ ⟨_, _, _, e⟩ => tup_of (e _ _ hnt3)) ?_ (fun σ H4 h => h)
      rintro i y σ H4 t hi ⟨v4, v5, rfl, e4⟩ nt4
      have e5 := e4.trans (same_upd nt4 (o := .tup [.int (i : Nat), y]))
      obtain ⟨bi, hbi, rfl⟩ : ∃ bi, bs[i]? = some bi ∧ y = .ref bi := by
        rw [List.getElem?_map] at hi
        cases hh : bs[i]? with
        | none => rw [hh] at hi; cases hi
        | some z => rw [hh] at hi; exact ⟨z, rfl, (Option.some.inj hi).symm⟩
      have hil : i < rows.length := by rw [← hbs3.1]; exact (List.getElem?_eq_some_iff.mp hbi).1
      have hri : rows[i]? = some rows[i] := List.getElem?_eq_getElem hil
      have hok := G.row i _ hri
      have hbt := e5 _ _ (hbs3.2 i bi _ hbi hri)
      refine ⟨t, _, rfl, tup_of upd_same, rfl, _, _, rfl, _, _, rfl, rfl, ?_⟩
      refine ⟨_, rfl, x, dx, _, rfl, e5 _ _ hx3, rfl, _, rfl, _, rfl, x, dx, nt, bi, _, bs.map V.ref, e, i, rows[i], rfl, e5 _ _ hx3, rfl, rfl, e5 _ _ hnt3, hbt, by rw [List.length_map, hbs3.1]; exact hok, fun H6 e6 => ⟨_, rfl, iteF ⟨_, _, rfl, e5.trans e6⟩⟩⟩
    rintro σ H4 ⟨v4, v5, rfl, e4⟩
    have hx4 := e4 _ _ hx3
    have hnt4 := e4 _ _ hnt3
    have hbs4 := hbs3.same e4
    -- the start
    refine ⟨fun σ H5 => σ = [some (.ref x), some (.ref q), some (.int e), some v, v4, v5, none] ∧ H5 x = some (.ins a.c_Web dx [("nodes", .ref nt), ("ends", .int e), ("start", .int o)]) ∧ H5 nt = some (.tup (bs.map V.ref)) ∧ RowsAt H5 bs rows ∧ ∀ b u, b ≠ x → H1 b = some u → H5 b = some u, ?_, ?_⟩
    · have fin : ∃ (a' C dx' : Addr) (fs : List (Str × V)), V.ref x = .ref a' ∧ H4 a' = some (.ins C dx' fs) ∧ Cls K C ∧ NoAttr K C "start" ∧ fs.length < 1000 ∧ ([some (V.ref x), some (.ref q), some (.int e), some v, v4, v5, none] = [some (.ref x), some (.ref q), some (.int e), some v, v4, v5, none] ∧ upd H4 a' (.ins C dx' (putF "start" (.int o) fs)) x = some (.ins a.c_Web dx [("nodes", .ref nt), ("ends", .int e), ("start", .int o)]) ∧ upd H4 a' (.ins C dx' (putF "start" (.int o) fs)) nt = some (.tup (bs.map V.ref)) ∧ RowsAt (upd H4 a' (.ins C dx' (putF "start" (.int o) fs))) bs rows ∧ ∀ b u, b ≠ x → H1 b = some u → upd H4 a' (.ins C dx' (putF "start" (.int o) fs)) b = some u) := by
        refine ⟨x, _, dx, _, rfl, hx4, T.cl_Web, T.nA_Web_start, by show 2 < 1000; decide, rfl, by rw [upd_same, put3], by rw [upd_ne (nbx hx4 hnt4)]; exact hnt4, ⟨hbs4.1, fun j b row h1 h2 => ?_⟩, fun b u nb hb => by rw [upd_ne nb]; exact e4 _ _ (k3 b u nb hb)⟩
        rw [upd_ne (nbx hx4 (hbs4.2 j b row h1 h2))]
        exact hbs4.2 j b row h1 h2
      refine ⟨_, rfl, rfl, _, rfl, ?_⟩
      rcases hv with rfl | ⟨rfl, ho⟩
      · rw [show decide (V.int o = V.non) = false by simp]
        exact iteF ⟨_, rfl, _, rfl, fin⟩
      · rw [show decide (V.non = V.non) = true by simp]
        refine iteT ⟨_, rfl, x, dx, _, rfl, hx4, rfl, x, dx, nt, _, _, rfl, hx4, rfl, hnt4, ?_⟩
        have eo : (if (bs.map V.ref).isEmpty = true then (-1 : Int) else 0) = o := by
          rw [ho]
          have hl := hbs4.1
          cases bs with
          | nil =>
            cases rows with
            | nil => rfl
            | cons _ _ => cases hl
          | cons _ _ =>
            cases rows with
            | nil => cases hl
            | cons _ _ => rfl
        rw [eo]
        exact ⟨_, rfl, fin⟩
    rintro σ H5 ⟨rfl, hx5, hnt5, hbs5, k5⟩
    refine ⟨fun σ H6 => σ = [some (.ref x), some (.ref q), some (.int e), some v, v4, v5, none] ∧ H6 = H5, ?_, ?_⟩
    · refine ⟨_, rfl, x, _, dx, _, _, rfl, hx5, T.cl_Web, T.nA_Web_start, rfl, _, rfl, x, dx, _, rfl, hx5, x, dx, _, nt, _, e, o, rfl, hx5, rfl, rfl, hnt5, _, rfl, _, rfl, ?_⟩
      rw [decide_eq_true ⟨G.o1, by rw [List.length_map, hbs5.1]; exact G.o2⟩]
      exact iteF ⟨rfl, rfl⟩
    rintro σ H6 ⟨rfl, rfl⟩
    refine ⟨fun σ H7 => σ = [some (.ref x), some (.ref q), some (.int e), some v, v4, v5, some .non] ∧ Same H6 H7, ?_, ?_⟩
    · exact ⟨_, rfl, x, _, dx, _, _, rfl, hx5, T.cl_Web, T.nA_Web_nodes, rfl, nt, bs, rows, e, rfl, hnt5, hbs5, G.len, G.row, G.cert, fun H7 e7 => ⟨rfl, e7⟩⟩
    rintro σ H7 ⟨rfl, e7⟩
    refine ⟨_, rfl, rfl, _, rfl, ?_⟩
    rw [show (!decide (V.non = V.non)) = false by simp]
    exact iteF (k H7 ⟨dx, nt, bs, e7 _ _ hx5, e7 _ _ hnt5, hbs5.same e7⟩ fun b u nb hb => e7 _ _ (k5 b u nb hb))
theorem ok_NoNode_init (T : Txt K mg a) : FnOk P w K mg base CX0 1 a.f_NoNode_init a.d_NoNode_init P_NoNode_init (spErr a.c_NoNode "index" okB) := by
  refine T.F_NoNode_init.ok sc_NoNode_init (fun vs H Q E h => ?_) (fun cdv A outer s H vs Q E hr h => ?_)
  · obtain ⟨x, v, rfl, _⟩ := h
    rfl
  · obtain ⟨x, v, rfl, ⟨i, rfl, hi⟩, hx, k⟩ := h
    refine ⟨_, (pss_cons (ps_expr (pe_binit T.bi_TestError (by rfl) T.g_TestError (pa_cons (pv 0) (pa_cons (pe_joined (PJ.cons pe_str (PJ.cons (pe_fmt (pv 1)) PJ.nil))) pa_nil))))
  (pss_one (ps_ost (pv 0) (pv 1)))), ?_⟩
    have hl := hi.len
    have c0 : Str.empty.length = 0 := rfl
    have c1 : (PySem.Str.ofString "there is no node ").length = 17 := by rw [PySem.ofString_length]; rfl
    refine ⟨_, rfl, ?_⟩
    refine ⟨_, rfl, by simp only [len_app, c0, c1, sizeLine_eq]; omega, ?_⟩
    refine ⟨_, rfl, .inr ⟨i, rfl, hi.log, _, rfl, by simp only [len_app, c0, c1, sizeLine_eq]; omega, ?_⟩⟩
    refine ⟨x, a.c_NoNode, _, rfl, by show 1 ≤ 1000; decide, T.ox_NoNode, hx, ?_⟩
    exact ⟨_, rfl, _, rfl, x, a.c_NoNode, rfl, T.ox_NoNode, T.nf_NoNode_index, .inl ⟨hx, fun dx nd ne => k dx nd ne⟩⟩
theorem ok_Web_getitem (T : Txt K mg a) : FnOk P w K mg base (L2.CX P w) 3 a.f_Web_getitem a.d_Web_getitem P_Web_getitem (spItem a.c_Web a.c_NoNode) := by
  refine T.F_Web_getitem.okX sc_Web_getitem (fun vs H Q E h => ?_) (fun cdv A outer s H vs Q E hr h => ?_)
  · obtain ⟨x, rows, e, o, z, rfl, _⟩ := h
    rfl
  · obtain ⟨x, rows, e, o, z, rfl, ⟨dx, nt, as, hx, hnt, hrows⟩, bz, k, kx⟩ := h
    refine ⟨_, (pss_cons (ps_if (pt_not (pt_chain op_le op_lt pe_int (pv 1) (pe_callB call_len_seq (by rfl) T.z_len (by decide +kernel) (pa_cons (pe_fld (pv 0) (by rfl)) pa_nil))))
    (pss_one (ps_raise rfl (takes_of rfl rfl rfl rfl) (pmk_oex T.ox_NoNode T.ii_NoNode T.ti_NoNode (ok_NoNode_init T) (hr.mono (by decide)) T.b_NoNode_init .nil pass0 (by rfl) T.g_NoNode (pa_cons (pv 1) pa_nil))))
    pss_nil)
  (pss_one (ps_ret (pe_ix ix_tup (pe_fld (pv 0) (by rfl)) (pv 1) (by intro _ _; rfl))))), ?_⟩
    have elen : (as.map V.ref).length = rows.length := by rw [List.length_map, hrows.1]
    refine ⟨_, rfl, _, _, rfl, rfl, _, rfl, ?_⟩
    by_cases h0 : (0 : Int) ≤ z
    · rw [decide_eq_true h0]
      refine iteT ⟨_, rfl, x, _, dx, _, _, rfl, hx, T.cl_Web, T.nA_Web_nodes, rfl, nt, _, rfl, .inr (tup_of hnt), _, _, rfl, rfl, _, rfl, ?_⟩
      rw [elen]
      by_cases h1 : z < (rows.length : Int)
      · rw [decide_eq_true h1]
        refine iteF ?_
        obtain ⟨j, rfl⟩ : ∃ j : Nat, z = (j : Int) := ⟨z.toNat, by omega⟩
        obtain ⟨aj, row, haj, hrj, hrw⟩ := rows_get hrows (show j < rows.length by omega)
        exact ⟨_, rfl, x, _, dx, _, _, rfl, hx, T.cl_Web, T.nA_Web_nodes, rfl, _, rfl, nt, _, _, _, rfl, rfl, tup_of hnt, at_tup (by rw [List.getElem?_map, haj]; rfl), k ⟨h0, h1⟩ aj row (by rw [Int.toNat_natCast]; exact hrj) hrw⟩
      · rw [decide_eq_false h1]
        refine iteT ?_
        exact ⟨_, rfl, err_make ⟨z, rfl, bz⟩ fun d nd => kx (fun hh => h1 hh.2) d _ nd (same_upd nd) upd_same⟩
    · rw [decide_eq_false h0]
      refine iteF ⟨_, rfl, ?_⟩
      refine iteT ?_
      exact ⟨_, rfl, err_make ⟨z, rfl, bz⟩ fun d nd => kx (fun hh => h0 hh.1) d _ nd (same_upd nd) upd_same⟩
theorem ok_l_draw (T : Txt K mg a) : FnOk P w K mg base CX0 1 a.f_l_draw a.d_l_draw P_l_draw (spDr K) := by
  refine T.F_l_draw.ok sc_l_draw (fun vs H Q E h => ?_) (fun cdv A outer s H vs Q E hr h => ?_)
  · obtain ⟨p, c, lim, rfl, _⟩ := h
    rfl
  · obtain ⟨p, c, lim, rfl, hs, l0, l1, k⟩ := h
    refine ⟨_, (Evl.pss_cut (ps_set (i := 2) sc_l_draw.nd rfl (Or.inl rfl) (pe_ix ix_list (pv 0) pe_int (by intro _ _; rfl)))
  (Evl.pss_cut (ps_if (pt_not (pt_truth (pv 2) (by intro _; rfl)))
    (pss_one (ps_ret pe_int))
    pss_nil)
  (Evl.pss_cut (ps_set (i := 3) sc_l_draw.nd rfl (Or.inl rfl) (pe_op op_mod (pe_ix ix_list (pv 0) pe_int (by intro _ _; rfl)) (pe_callB call_len_seq (by rfl) T.z_len (by decide +kernel) (pa_cons (pv 2) pa_nil))))
  (Evl.pss_cut (ps_set (i := 4) sc_l_draw.nd rfl (Or.inl rfl) (pe_ix ix_list (pv 2) (pv 3) (by intro _ _; rfl)))
  (Evl.pss_cut (ps_asg (pe_op op_add (pe_ix ix_list (pv 0) pe_int (by intro _ _; rfl)) pe_int) (pg_sub (pv 0) pe_int set_list))
  (Evl.pss_cut (ps_if (pt_cmpR op_ge (pv 4) (pe_op op_pow pe_int pe_int) (nomark _))
    (pss_cons (ps_asg (pe_op op_fdivW (pv 4) (pv 1)) (pg_sub (pv 2) (pv 3) set_list))
  (pss_one (ps_ret (pe_op op_mod (pe_callTy call_int1 (by rfl) T.z_int (by decide +kernel) (pa_cons (pv 4) pa_nil)) (pv 1)))))
    pss_nil)
  (Evl.pss_cut (ps_set (i := 5) sc_l_draw.nd rfl (Or.inl rfl) (pe_op op_mod (pe_callTy call_int1 (by rfl) T.z_int (by decide +kernel) (pa_cons (pe_op op_add (pe_op op_add (pe_op op_mul (pv 4) pe_int) (pe_op op_mul (pe_ix ix_list (pv 0) pe_int (by intro _ _; rfl)) pe_int)) pe_int) pa_nil)) pe_int))
  (pss_one (ps_ret (pe_op op_mod (pe_op op_mod (pe_callTy call_int1 (by rfl) T.z_int (by decide +kernel) (pa_cons (pe_op op_add (pe_op op_mul (pv 5) pe_int) (pe_op op_mul (pe_ix ix_list (pv 0) pe_int (by intro _ _; rfl)) pe_int)) pa_nil)) pe_int) (pv 1))))))))))), ?_⟩
    obtain ⟨hne, ns, i, hp, hc⟩ := id hs
    have wd : CDivW 0 lim := wide_div (i := 0) (b := 200) l0 (by omega) (by decide) (by decide)
    refine ⟨fun σ H1 => σ = [some (.ref p), some (.int lim), some (.ref c), none, none, none] ∧ H1 = H, ?_, ?_⟩
    · exact ⟨_, rfl, p, _, 0, _, rfl, rfl, lst_of hp, rfl, rfl, rfl⟩
    rintro σ H1 ⟨rfl, rfl⟩
    refine ⟨fun σ H2 => ns ≠ [] ∧ σ = [some (.ref p), some (.int lim), some (.ref c), none, none, none] ∧ H2 = H1, ?_, ?_⟩
    · refine ⟨_, rfl, _, .inl ⟨_, lst_of hc, rfl⟩, ?_⟩
      cases ns with
      | nil => exact k H1 0 (Fr.refl _ _ _) hs (Int.le_refl _) l0
      | cons n ns => exact ⟨List.cons_ne_nil _ _, rfl, rfl⟩
    rintro σ H2 ⟨hnn, rfl, rfl⟩
    have hpos : 0 < ns.length := List.length_pos_iff.mpr hnn
    refine ⟨fun σ H1 => ∃ j : Nat, j < ns.length ∧ σ = [some (.ref p), some (.int lim), some (.ref c), some (.int j), none, none] ∧ H1 = H2, ?_, ?_⟩
    · refine ⟨_, rfl, p, _, 1, _, rfl, rfl, lst_of hp, rfl, _, rfl, c, _, rfl, .inl (lst_of hc), i, _, rfl, rfl, (by show (0 : Int) < ((ns.map V.int).length : Nat); rw [List.length_map]; omega), (i % (ns.length : Int)).toNat, ?_, ?_, rfl⟩
      · have h1 := Int.emod_nonneg i (show (ns.length : Int) ≠ 0 by omega)
        have h2 := Int.emod_lt_of_pos i (show (0 : Int) < ns.length by omega)
        omega
      · have h1 := Int.emod_nonneg i (show (ns.length : Int) ≠ 0 by omega)
        rw [List.length_map, Int.toNat_of_nonneg h1]
        rfl
    rintro σ H1 ⟨j, hj, rfl, rfl⟩
    have hcj : (ns.map V.int)[j]? = some (.int ns[j]) := by rw [List.getElem?_map, List.getElem?_eq_getElem hj]; rfl
    refine ⟨fun σ H2 => σ = [some (.ref p), some (.int lim), some (.ref c), some (.int j), some (.int ns[j]), none] ∧ H2 = H1, ?_, ?_⟩
    · exact ⟨_, rfl, _, rfl, c, _, (j : Int), _, rfl, rfl, lst_of hc, atI_nat hcj, rfl, rfl⟩
    rintro σ H2 ⟨rfl, rfl⟩
    refine ⟨fun σ H1 => σ = [some (.ref p), some (.int lim), some (.ref c), some (.int j), some (.int ns[j]), none] ∧ H1 = upd H2 p (.lst [.ref c, .int (i + 1)]), ?_, ?_⟩
    · exact ⟨_, rfl, p, _, 1, _, rfl, rfl, lst_of hp, rfl, _, _, rfl, rfl, _, rfl, p, _, 1, 1, rfl, rfl, hp, rfl, rfl, rfl⟩
    rintro σ H1 ⟨rfl, rfl⟩
    have hp1 : upd H2 p (.lst [.ref c, .int (i + 1)]) p = some (.lst [.ref c, .int (i + 1)]) := upd_same
    have hc1 : upd H2 p (.lst [.ref c, .int (i + 1)]) c = some (.lst (ns.map V.int)) := by rw [upd_ne hne.symm]; exact hc
    have f1 : Fr p c H2 (upd H2 p (.lst [.ref c, .int (i + 1)])) := ⟨fun b o nl h => by
      rw [upd_ne (fun z => by subst z; rw [hp] at h; exact nl _ (Option.some.inj h).symm)]; exact h, fun b xs n1 n2 h => by rw [upd_ne n1]; exact h⟩
    refine ⟨fun σ H1 => σ = [some (.ref p), some (.int lim), some (.ref c), some (.int j), some (.int ns[j]), none] ∧ H1 = upd H2 p (.lst [.ref c, .int (i + 1)]), ?_, ?_⟩
    · refine ⟨_, rfl, _, 18, rfl, rfl, ⟨by decide, by decide, by decide⟩, _, _, rfl, rfl, _, rfl, ite2 (fun _ => ?_) (fun _ => ⟨rfl, rfl⟩)⟩
      refine ⟨_, rfl, _, rfl, _, lim, rfl, rfl, ⟨wd.1, wd.2⟩, _, rfl, _, rfl, c, _, _, j, rfl, rfl, hc1, ixN_nat (by rw [List.length_map]; exact hj), ?_⟩
      refine ⟨_, rfl, .inl ⟨_, rfl, _, rfl, _, lim, rfl, rfl, l0, ?_⟩⟩
      refine k _ _ (f1.trans ⟨fun b o nl h => ?_, fun b xs n1 n2 h => by rw [upd_ne n2]; exact h⟩) ⟨hne, ns.set j (ns[j] / lim), i + 1, by rw [upd_ne hne]; exact hp1, by rw [upd_same, List.map_set]⟩ (Int.emod_nonneg _ (by omega)) (Int.emod_lt_of_pos _ l0)
      rw [upd_ne (fun z => by subst z; rw [hc1] at h; exact nl _ (Option.some.inj h).symm)]
      exact h
    rintro σ H1 ⟨rfl, rfl⟩
    have fin : ∀ r, 0 ≤ r → r < lim → Q (.int r) (upd H2 p (.lst [.ref c, .int (i + 1)])) := fun r r0 r1 => k _ r f1 ⟨hne, ns, i + 1, hp1, hc1⟩ r0 r1
    refine ⟨fun σ H1 => ∃ m : Int, σ = [some (.ref p), some (.int lim), some (.ref c), some (.int j), some (.int ns[j]), some (.int m)] ∧ H1 = upd H2 p (.lst [.ref c, .int (i + 1)]), ?_, ?_⟩
    · refine ⟨_, rfl, _, 48271, rfl, rfl, .inr ⟨by decide, by decide⟩, _, rfl, p, _, 1, _, rfl, rfl, lst_of hp1, rfl, _, 69621, rfl, rfl, .inr ⟨by decide, by decide⟩, _, _, rfl, rfl, _, _, rfl, rfl, .inl ⟨_, rfl, _, 2147483647, rfl, rfl, (by show (0 : Int) < 2147483647; decide), _, rfl, rfl⟩⟩
    rintro σ H1 ⟨m, rfl, rfl⟩
    refine ⟨_, rfl, _, 16807, rfl, rfl, .inr ⟨by decide, by decide⟩, _, rfl, p, _, 1, _, rfl, rfl, lst_of hp1, rfl, _, 40692, rfl, rfl, .inr ⟨by decide, by decide⟩, _, _, rfl, rfl, .inl ⟨_, rfl, _, 2147483629, rfl, rfl, (by show (0 : Int) < 2147483629; decide), _, rfl, _, lim, rfl, rfl, l0, ?_⟩⟩
    exact fin _ (Int.emod_nonneg _ (by omega)) (Int.emod_lt_of_pos _ l0)
theorem ok_l_target (T : Txt K mg a) : FnOk P w K mg base CX0 2 a.f_l_target a.d_l_target P_l_target (spTgt K) := by
  refine T.F_l_target.ok sc_l_target (fun vs H Q E h => ?_) (fun cdv A outer s H vs Q E hr h => ?_)
  · obtain ⟨p, c, idx, cnt, e, rfl, _⟩ := h
    rfl
  · obtain ⟨p, c, idx, cnt, e, rfl, hs, i0, i1, cl, e1, e2, k⟩ := h
    refine ⟨_, (pss_cons (ps_set (i := 4) sc_l_target.nd rfl (Or.inl rfl) (pe_call (ok_l_draw T) (hr.mono (by decide)) (by rfl) T.g_l_draw T.k_l_draw T.b_l_draw .nil pass0 (pa_cons (pv 0) (pa_cons (pe_op op_add (pe_op op_sub (pe_op op_sub (pv 2) pe_int) (pv 1)) (pv 3)) pa_nil))))
  (pss_cons (ps_if (pt_cmpR op_lt (pv 4) (pe_op op_sub (pe_op op_sub (pv 2) pe_int) (pv 1)) (nomark _))
    (pss_one (ps_ret (pe_op op_add (pe_op op_add (pv 1) pe_int) (pv 4))))
    pss_nil)
  (pss_one (ps_ret (pe_op op_sub (pe_op op_sub (pe_op op_sub (pv 2) pe_int) (pv 1)) (pv 4)))))), ?_⟩
    refine ⟨_, rfl, _, rfl, _, _, rfl, rfl, _, rfl, _, _, rfl, rfl, _, rfl, _, _, rfl, rfl, p, c, _, rfl, hs, by omega, by omega, fun H1 r f1 s1 r0 r1 => ?_⟩
    refine ⟨_, rfl, _, rfl, _, _, rfl, rfl, _, rfl, _, _, rfl, rfl, _, _, rfl, rfl, _, rfl, ite2 (fun h => ?_) (fun h => ?_)⟩
    · have h : r < cnt - 1 - idx := of_decide_eq_true h
      exact ⟨_, rfl, _, _, rfl, rfl, _, rfl, _, _, rfl, rfl, k H1 _ f1 s1 ⟨by omega, by omega, by omega⟩⟩
    · have h : ¬ r < cnt - 1 - idx := fun z => h (decide_eq_true z)
      exact ⟨_, rfl, _, _, rfl, rfl, _, rfl, _, _, rfl, rfl, _, rfl, _, _, rfl, rfl, k H1 _ f1 s1 ⟨by omega, by omega, by omega⟩⟩
theorem ok_l_below (T : Txt K mg a) : FnOk P w K mg base CX0 1 a.f_l_below a.d_l_below P_l_below spBelow := by
  refine T.F_l_below.ok sc_l_below (fun vs H Q E h => ?_) (fun cdv A outer s H vs Q E hr h => ?_)
  · obtain ⟨b, xs, t, rfl, _⟩ := h
    rfl
  · obtain ⟨b, xs, t, rfl, hb, k1, k2⟩ := h
    refine ⟨_, (pss_cons (ps_if (pt_cmpR op_lt (pv 1) pe_int (nomark _))
    (pss_one (ps_ret (pe_lst pa_nil)))
    pss_nil)
  (pss_one (ps_ret (pe_ix ix_list (pv 0) (pv 1) (by intro _ _; rfl))))), ?_⟩
    refine ⟨_, rfl, _, _, rfl, rfl, _, rfl, ite2 (fun h => ?_) (fun h => ?_)⟩
    · exact ⟨by show 0 ≤ sizeLine; decide, fun D nD => k1 (of_decide_eq_true h) D nD⟩
    · have t0 : 0 ≤ t := Int.not_lt.mp fun z => h (decide_eq_true z)
      obtain ⟨v, hv, q⟩ := k2 t0
      obtain ⟨n, rfl⟩ : ∃ n : Nat, t = (n : Int) := ⟨t.toNat, by omega⟩
      rw [Int.toNat_natCast] at hv
      exact ⟨_, rfl, _, rfl, b, _, (n : Int), v, rfl, rfl, lst_of hb, atI_nat hv, q⟩
theorem ok_l_pool (T : Txt K mg a) : FnOk P w K mg base CX0 2 a.f_l_pool a.d_l_pool P_l_pool spPoolS := by
  refine T.F_l_pool.ok sc_l_pool (fun vs H Q E h => ?_) (fun cdv A outer s H vs Q E hr h => ?_)
  · obtain ⟨p, c, rfl, _⟩ := h
    rfl
  · obtain ⟨p, c, rfl, hs, k⟩ := h
    refine ⟨_, (Evl.pss_cut (ps_set (i := 1) sc_l_pool.nd rfl (Or.inr rfl) (pe_call (ok_l_draw T) (hr.mono (by decide)) (by rfl) T.g_l_draw T.k_l_draw T.b_l_draw .nil pass0 (pa_cons (pv 0) (pa_cons pe_int pa_nil))))
  (Evl.pss_cut (ps_set (i := 2) sc_l_pool.nd rfl (Or.inr rfl) (pe_ix ix_tup (pe_tup (pa_cons pe_int (pa_cons pe_int (pa_cons pe_int (pa_cons pe_int pa_nil))))) (pe_call (ok_l_draw T) (hr.mono (by decide)) (by rfl) T.g_l_draw T.k_l_draw T.b_l_draw .nil pass0 (pa_cons (pv 0) (pa_cons pe_int pa_nil))) (by intro _ _; rfl)))
  (pss_one (ps_ret (pe_lc (own := [("_law_k", 3)]) (g := gName 3) (tt := tYes) (te := (tOp (rI (fun _ j => 0 < j) fun i j => .int (i % j)) (tOp (rI0 fun i j => .int (i + j)) (tVar 1) (tOp (rI CMul fun i j => .int (i * j)) (tVar 2) (tVar 3))) (tC (.int 48)))) rfl sc_l_pool.nd (pi_range1 (by rfl) T.z_range (pa_cons (pe_op op_add pe_int (pe_call (ok_l_draw T) (hr.mono (by decide)) (by rfl) T.g_l_draw T.k_l_draw T.b_l_draw .nil pass0 (pa_cons (pv 0) (pa_cons pe_int pa_nil)))) pa_nil)) (blkOk_by (N := N_l_pool) (sc := defScope s_l_pool) (by decide +kernel)) (fun _ _ _ _ _ => pg_name (i := 3) sc_l_pool.nd rfl (Or.inl rfl)) (fun _ _ _ _ _ => pts_nil) (fun _ _ _ _ _ => by exact (pe_op op_mod (pe_op op_add (pv 1) (pe_op op_mul (pv 2) (pv 3))) pe_int))))))), ?_⟩
    refine ⟨fun σ H1 => ∃ f : Int, 0 ≤ f ∧ f < 48 ∧ σ = [some (.ref p), some (.int f), none, none] ∧ Fr p c H H1 ∧ Stt p c H1, ?_, ?_⟩
    · exact ⟨_, rfl, p, c, 48, rfl, hs, by decide, by decide, fun H1 r f1 s1 r0 r1 => ⟨r, r0, r1, rfl, f1, s1⟩⟩
    rintro σ H1 ⟨f, f0, f1', rfl, f1, s1⟩
    refine ⟨fun σ H2 => ∃ st : Int, 0 ≤ st ∧ st < 12 ∧ σ = [some (.ref p), some (.int f), some (.int st), none] ∧ Fr p c H H2 ∧ Stt p c H2, ?_, ?_⟩
    · refine ⟨by show 4 ≤ sizeLine; decide, fun t nt => ?_⟩
      have f2 := f1.upd nt (o := .tup [.int 1, .int 5, .int 7, .int 11])
      refine ⟨_, rfl, p, c, 4, rfl, s1.upd nt, by decide, by decide, fun H2 r f3 s3 r0 r1 => ?_⟩
      have ht := f3.tup (upd_same (H := H1) (a := t) (o := .tup [.int 1, .int 5, .int 7, .int 11]))
      have hr : r = 0 ∨ r = 1 ∨ r = 2 ∨ r = 3 := by omega
      rcases hr with rfl | rfl | rfl | rfl
      · exact ⟨t, _, 0, .int 1, rfl, rfl, tup_of ht, rfl, 1, by decide, by decide, rfl, f2.trans f3, s3⟩
      · exact ⟨t, _, 1, .int 5, rfl, rfl, tup_of ht, rfl, 5, by decide, by decide, rfl, f2.trans f3, s3⟩
      · exact ⟨t, _, 2, .int 7, rfl, rfl, tup_of ht, rfl, 7, by decide, by decide, rfl, f2.trans f3, s3⟩
      · exact ⟨t, _, 3, .int 11, rfl, rfl, tup_of ht, rfl, 11, by decide, by decide, rfl, f2.trans f3, s3⟩
    rintro σ H2 ⟨st, st0, st1, rfl, f2, s2⟩
    refine ⟨_, rfl, p, c, 5, rfl, s2, by decide, by decide, fun H3 r f3 s3 r0 r1 => ⟨_, _, rfl, rfl, _, rfl, by omega, by omega, fun D nD => ?_⟩⟩
    have nD0 : H D = none := (f2.trans f3).free s3 nD
    refine lc_range (lo := 0) (n := (1 + r).toNat) (fun j H4 => Same H3 H4 ∧ ∃ l : List Int, H4 D = some (.lst (l.map V.int)) ∧ l.length = j ∧ Qn l) ⟨same_upd nD, [], upd_same, rfl, fun _ h => (nomatch h)⟩ (fun j H4 hj h => ?_) (fun H4 h => ?_)
    · obtain ⟨f4, l, hD, hl, hq⟩ := h
      refine ⟨rfl, tyes ⟨_, rfl, _, rfl, _, rfl, _, _, rfl, rfl, .inl ⟨by omega, by omega⟩, _, _, rfl, rfl, _, 48, rfl, rfl, (by show (0 : Int) < 48; decide), _, hD, by rw [List.length_map, sizeLine_eq]; omega, f4.mut nD, l ++ [_], by rw [upd_same, List.map_append]; rfl, by rw [List.length_append, hl]; rfl, fun z hz => ?_⟩⟩
      rcases List.mem_append.mp hz with hz | hz
      · exact hq z hz
      · rw [List.mem_singleton.mp hz]
        exact ⟨Int.emod_nonneg _ (by decide), Int.emod_lt_of_pos _ (by decide)⟩
    · obtain ⟨f4, l, hD, hl, hq⟩ := h
      exact k H4 D l nD0 ((f2.trans f3).trans f4.fr) (s3.same f4) hD hq (fun z => by subst z; simp at hl; omega) (by omega)
theorem rows_snoc {H : Hp} {as : List Addr} {rows : List (List Int)} {u : Addr} {row : List Int} (h : RowsAt H as rows) (hu : H u = some (.tup (row.map V.int))) : RowsAt H (as ++ [u]) (rows ++ [row]) := by
  refine ⟨by rw [List.length_append, List.length_append, h.1]; rfl, fun i y n h3 h4 => ?_⟩
  by_cases hi : i < as.length
  · rw [List.getElem?_append_left hi] at h3
    rw [List.getElem?_append_left (by rw [← h.1]; exact hi)] at h4
    exact h.2 i y n h3 h4
  · rw [List.getElem?_append_right (by omega)] at h3
    rw [List.getElem?_append_right (by rw [← h.1]; omega), ← h.1] at h4
    have h0 : i - as.length = 0 := by
      have := (List.getElem?_eq_some_iff.mp h3).1
      rw [List.length_singleton] at this
      omega
    rw [h0] at h3 h4
    obtain rfl := Option.some.inj h3
    obtain rfl := Option.some.inj h4
    exact hu
theorem rows_app {H : Hp} {D u : Addr} {as : List Addr} {rows : List (List Int)} {row : List Int} {o : HO} {xs : List V} (hD : H D = some (.lst xs)) (h : RowsAt H as rows) (hu : H u = some (.tup (row.map V.int))) : RowsAt (upd H D o) (as ++ [u]) (rows ++ [row]) := by
  have := rows_snoc h hu
  refine ⟨this.1, fun i b row h1 h2 => ?_⟩
  have hb := this.2 i b row h1 h2
  rw [upd_ne (ne_of hb hD (by intro z; cases z))]
  exact hb
theorem made {H2 : Hp} {q x dx : Addr} {bs : List Addr} {rows : List (List Int)} {e o : Int} {R : VK} {E : XK} {C : Addr} (hx : H2 x = none) (hd : H2 dx = none) (hdx : dx ≠ x) (hq : SqL K H2 q (bs.map V.ref)) (hl : bs.length = rows.length)
    (hr : ∀ (i : Nat) b row, bs[i]? = some b → rows[i]? = some row → RowIn H2 b row) (G : GoodW rows e o) (h : ∀ H3, WebAt C H3 x rows e o → Same H2 H3 → R .non H3) :
    spWebInit K C [.ref x, .ref q, .int e, .int o] (upd (upd H2 dx (.own x)) x (.ins C dx [])) R E := by
  have hx2 : upd H2 dx (.own x) x = none := by rw [upd_ne (fun z => hdx z.symm)]; exact hx
  have s := (same_upd hd (o := .own x)).trans (same_upd hx2 (o := .ins C dx []))
  refine ⟨x, dx, q, bs, rows, e, o, .int o, rfl, upd_same, s.seq hq, hl, fun i b row h1 h2 => (hr i b row h1 h2).same s, G, .inl rfl, fun H' hw keep => h H' hw fun b u hb => ?_⟩
  exact keep b u (ne_of_none hb hx) (s b u hb)
theorem ok_NoPosition_init (T : Txt K mg a) : FnOk P w K mg base CX0 1 a.f_NoPosition_init a.d_NoPosition_init P_NoPosition_init (spErr a.c_NoPosition "place" okB) := by
  refine T.F_NoPosition_init.ok sc_NoPosition_init (fun vs H Q E h => ?_) (fun cdv A outer s H vs Q E hr h => ?_)
  · obtain ⟨x, v, rfl, _⟩ := h
    rfl
  · obtain ⟨x, v, rfl, ⟨i, rfl, hi⟩, hx, k⟩ := h
    refine ⟨_, (pss_cons (ps_expr (pe_binit T.bi_TestError (by rfl) T.g_TestError (pa_cons (pv 0) (pa_cons (pe_joined (PJ.cons (pe_fmt (pv 1)) (PJ.cons pe_str PJ.nil))) pa_nil))))
  (pss_one (ps_ost (pv 0) (pv 1)))), ?_⟩
    have hl := hi.len
    have c0 : Str.empty.length = 0 := rfl
    have c2 : (PySem.Str.ofString " is no position").length = 15 := by rw [PySem.ofString_length]; rfl
    refine ⟨_, rfl, ?_⟩
    refine ⟨_, rfl, .inr ⟨i, rfl, hi.log, _, rfl, by simp only [len_app, c0, c2, sizeLine_eq]; omega, ?_⟩⟩
    refine ⟨_, rfl, by simp only [len_app, c0, c2, sizeLine_eq]; omega, ?_⟩
    refine ⟨x, a.c_NoPosition, _, rfl, by show 1 ≤ 1000; decide, T.ox_NoPosition, hx, ?_⟩
    exact ⟨_, rfl, _, rfl, x, a.c_NoPosition, rfl, T.ox_NoPosition, T.nf_NoPosition_place, .inl ⟨hx, fun dx nd ne => k dx nd ne⟩⟩
/-- what holds before each turn of _led_to -/
structure Bf (rows : List (List Int)) (z : Int) (ks ws : List Int) : Prop where
  nd : ks.Nodup
  zin : z ∈ ks
  led : ∀ j ∈ ks, Led rows z j
  sub : ∀ j ∈ ws, j ∈ ks
  le : ws.length ≤ ks.length
  done : ∀ j ∈ ks, j ∈ ws ∨ ∀ q a b r, 0 ≤ j → rows[j.toNat]? = some (q :: a :: b :: r) → a ∈ ks ∧ b ∈ ks
theorem ok_Web_led_to (T : Txt K mg a) : FnOk P w K mg base (L2.CX P w) 3 a.f_Web_led_to a.d_Web_led_to P_Web_led_to (spLed K a.c_Web a.c_NoPosition) := by
  refine T.F_Web_led_to.okX sc_Web_led_to (fun vs H Q E h => ?_) (fun cdv A outer s H vs Q E hr h => ?_)
  · obtain ⟨x, rows, e, o, z, rfl, _⟩ := h
    rfl
  · obtain ⟨x, rows, e, o, z, rfl, ⟨dx, nt, as, hx, hnt, hrows⟩, G, bz, k, kx⟩ := h
    refine ⟨_, (Evl.pss_cut (ps_if (pt_cmpR (notIn_own (ok_Web_contains T) (hr.mono (by decide)) T.s_Web_contains T.i_Web_contains T.b_Web_contains pass0) (pv 1) (pv 0) (by with_unfolding_all rfl))
    (pss_one (ps_raise rfl (takes_of rfl rfl rfl rfl) (pmk_oex T.ox_NoPosition T.ii_NoPosition T.ti_NoPosition (ok_NoPosition_init T) (hr.mono (by decide)) T.b_NoPosition_init .nil pass0 (by rfl) T.g_NoPosition (pa_cons (pv 1) pa_nil))))
    pss_nil)
  (Evl.pss_cut (ps_set (i := 2) sc_Web_led_to.nd rfl (Or.inl rfl) (pe_disp (pps_cons (pv 1) pe_bl pps_nil) (by rfl) (by rfl) (fun z => by cases z) (by decide)))
  (Evl.pss_cut (ps_set (i := 3) sc_Web_led_to.nd rfl (Or.inl rfl) (pe_lst (pa_cons (pv 1) pa_nil)))
  (Evl.pss_cut (ps_while (passes_of rfl) (pt_truth (pv 3) (by intro _; rfl))
    (Evl.pss_cut (ps_set (i := 4) sc_Web_led_to.nd rfl (Or.inl rfl) (pe_bm0 PySem.F.plainAttrs_list PySem.F.slot_list_pop PySem.F.type_list_pop mt_pop (pv 3)))
  (Evl.pss_cut (ps_set (i := 5) sc_Web_led_to.nd rfl (Or.inl rfl) (pe_ifExp (pt_cmpR op_ge (pv 4) pe_int (nomark _)) (pe_slice sl_tupA (pe_ix ix_tup (pe_fld (pv 0) (by rfl)) (pv 4) (by intro _ _; rfl)) (po_some pe_int) (po_some pe_int)) (pe_tup pa_nil)))
  (pss_one (ps_for (passes_of rfl) rfl (pi_tup (pv 5)) (pg_name (i := 6) sc_Web_led_to.nd rfl (Or.inl rfl))
    (pss_one (ps_if (pt_cmp (pc_dnotin (hu_of hr) (pv 6) (pv 2)))
    (pss_cons (ps_dput (hu_of hr) (pv 2) (pv 6) pe_bl rfl)
  (pss_one (ps_expr (pe_bm PySem.F.plainAttrs_list PySem.F.slot_list_append PySem.F.type_list_append mt_append (pv 3) (pa_cons (pv 6) pa_nil)))))
    pss_nil)))))))
  (pss_one (ps_ret (pe_callTy (call_list_dK rfl) (by rfl) T.z_list (by decide +kernel) (pa_cons (pv 2) pa_nil)))))))), ?_⟩
    have elen : (as.map V.ref).length = rows.length := by rw [List.length_map, hrows.1]
    have ge1 := G.e1
    have ge2 := G.e2
    have gl := G.len
    -- is it a position
    refine ⟨fun σ H1 => (-e ≤ z ∧ z < rows.length) ∧ σ = [some (.ref x), some (.int z), none, none, none, none, none] ∧ H1 = H, ?_, ?_⟩
    · refine ⟨_, rfl, _, rfl, x, dx, _, rfl, hx, x, dx, _, nt, _, e, z, rfl, hx, rfl, rfl, hnt, _, rfl, ?_⟩
      rw [elen]
      refine ⟨_, rfl, ?_⟩
      by_cases hz : -e ≤ z ∧ z < rows.length
      · rw [decide_eq_true hz]
        exact iteF ⟨hz, rfl, rfl⟩
      · rw [decide_eq_false hz]
        refine iteT ?_
        exact ⟨_, rfl, err_make ⟨z, rfl, bz⟩ fun d nd => kx hz d _ nd (same_upd nd) upd_same⟩
    rintro σ H1 ⟨hz, rfl, rfl⟩
    refine ⟨fun σ H2 => ∃ F, σ = [some (.ref x), some (.int z), some (.ref F), none, none, none, none] ∧ H1 F = none ∧ H2 F = some (.dK (dTrue [z])) ∧ Same H1 H2, ?_, ?_⟩
    · refine fun F nF => ⟨_, rfl, ?_⟩
      exact ⟨upd_same, [(Sum.inl z, V.bl true)], rfl, by simp, F, rfl, nF, by rw [upd_same]; rfl, (same_upd nF).mut nF⟩
    rintro σ H2 ⟨F, rfl, nF, hF, f2⟩
    refine ⟨fun σ H3 => ∃ W, σ = [some (.ref x), some (.int z), some (.ref F), some (.ref W), none, none, none] ∧ H1 W = none ∧ W ≠ F ∧ H3 F = some (.dK (dTrue [z])) ∧ H3 W = some (.lst ([z].map V.int)) ∧ Same H1 H3, ?_, ?_⟩
    · exact ⟨_, rfl, by show 1 ≤ sizeLine; decide, fun W nW => ⟨W, rfl, f2.free nW, (ne_of_none hF nW).symm, (same_upd nW) _ _ hF, upd_same, f2.trans (same_upd nW)⟩⟩
    rintro σ H3 ⟨W, rfl, nW, hWF, hF, hW, f3⟩
    -- the turns
    refine ⟨fun σ H4 => ∃ v4 v5 v6 ks, σ = [some (.ref x), some (.int z), some (.ref F), some (.ref W), v4, v5, v6] ∧ Same H1 H4 ∧ H4 F = some (.dK (dTrue ks)) ∧ Bf rows z ks [], ?_, ?_⟩
    · refine while_by (fun σ H4 => ∃ v4 v5 v6 ks ws, σ = [some (.ref x), some (.int z), some (.ref F), some (.ref W), v4, v5, v6] ∧ Same H1 H4 ∧ H4 F = some (.dK (dTrue ks)) ∧ H4 W = some (.lst (ws.map V.int)) ∧ Bf rows z ks ws) (fun σ H4 => 2 * (e.toNat + rows.length - lenD (H4 F)) + lenL (H4 W)) ?_ ?_ (fun σ H4 Q Q' h ⟨v, e1, kk, t, q⟩ => ⟨v, e1, kk, t, h _ _ q⟩)
      · refine ⟨_, _, _, [z], [z], rfl, f3, hF, hW, ⟨by simp, List.mem_singleton.mpr rfl, fun j hj => ?_, fun j hj => hj, Nat.le_refl _, fun j hj => .inl hj⟩⟩
        rw [List.mem_singleton.mp hj]
        exact .refl
      rintro σ H4 ⟨v4, v5, v6, ks, ws, rfl, f4, hF4, hW4, B⟩
      refine ⟨_, rfl, _, .inl ⟨_, lst_of hW4, rfl⟩, ?_⟩
      rcases List.eq_nil_or_concat ws with rfl | ⟨ws, pl, rfl⟩
      · exact iteF ⟨_, _, _, ks, rfl, f4, hF4, B⟩
      rw [List.concat_eq_append] at hW4 B ⊢
      have kT : ∀ (ks : List Int), ks.Nodup → (∀ j ∈ ks, Led rows z j) → ks.length ≤ e.toNat + rows.length := fun ks nd hl => by
        have := nodup_le ks (posL e.toNat rows.length) nd fun j hj => by
          obtain ⟨b1, b2⟩ := (hl j hj).bounds G hz.1 hz.2
          exact mem_pos (by omega) b2
        rw [pos_len] at this
        exact this
      have kl := kT ks B.nd B.led
      have lD : lenD (H4 F) = ks.length := by rw [hF4]; simp [lenD, dTrue]
      have lL : lenL (H4 W) = ws.length + 1 := by rw [hW4]; simp [lenL]
      have tr : (!((ws ++ [pl]).map V.int).isEmpty) = true := by cases ws <;> rfl
      rw [tr]
      refine iteT ?_
      have hwl : ws.length + 1 ≤ ks.length := by have := B.le; rw [List.length_append, List.length_singleton] at this; exact this
      have hplk : pl ∈ ks := B.sub pl (List.mem_append.mpr (.inr (List.mem_singleton.mpr rfl)))
      have hpb := (B.led pl hplk).bounds G hz.1 hz.2
      -- the last one
      refine ⟨fun σ H5 => σ = [some (.ref x), some (.int z), some (.ref F), some (.ref W), some (.int pl), v5, v6] ∧ Same H1 H5 ∧ H5 F = some (.dK (dTrue ks)) ∧ H5 W = some (.lst (ws.map V.int)), ?_, ?_⟩
      · refine ⟨_, rfl, .inl ⟨rfl, _, lst_of hW4⟩, W, _, .int pl, rfl, rfl, hW4, ?_, rfl, f4.mut nW, by rw [upd_ne hWF.symm]; exact hF4, ?_⟩
        · rw [List.map_append, List.length_append, List.getElem?_append_right (by simp)]
          simp
        · rw [upd_same, List.map_append]
          simp
      rintro σ H5 ⟨rfl, f5, hF5, hW5⟩
      -- its targets
      refine ⟨fun σ H6 => ∃ (tv : Addr) (ts : List Int), σ = [some (.ref x), some (.int z), some (.ref F), some (.ref W), some (.int pl), some (.ref tv), v6] ∧ Same H5 H6 ∧ H6 tv = some (.tup (ts.map V.int)) ∧ (∀ t ∈ ts, Led rows z t) ∧ (∀ q a b r, 0 ≤ pl → rows[pl.toNat]? = some (q :: a :: b :: r) → a ∈ ts ∧ b ∈ ts), ?_, ?_⟩
      · refine ⟨_, rfl, _, _, rfl, rfl, _, rfl, ?_⟩
        by_cases h0 : (0 : Int) ≤ pl
        · rw [decide_eq_true h0]
          obtain ⟨n, rfl⟩ : ∃ n : Nat, pl = (n : Int) := ⟨pl.toNat, by omega⟩
          obtain ⟨an, row, han, hrn, hrw⟩ := rows_get (hrows.same f5) (show n < rows.length by omega)
          obtain ⟨q, a', b', r, rfl, _⟩ := G.two hrn
          refine iteT ⟨_, rfl, x, _, dx, _, _, rfl, f5 _ _ hx, T.cl_Web, T.nA_Web_nodes, rfl, _, rfl, nt, _, (n : Int), _, rfl, rfl, tup_of (f5 _ _ hnt), at_tup (by rw [List.getElem?_map, han]; rfl), _, rfl, _, rfl, mid_row hrw fun tv ntv => ⟨tv, [a', b'], rfl, same_upd ntv, upd_same, fun t ht => ?_, fun q2 a2 b2 r2 _ h2 => ?_⟩⟩
          · have hl := B.led _ hplk
            refine .step hl h0 (by rw [Int.toNat_natCast]; exact hrn) ?_
            rcases List.mem_cons.mp ht with h | h
            · exact .inl h
            · exact .inr (List.mem_singleton.mp h)
          · rw [Int.toNat_natCast, hrn] at h2
            simp only [Option.some.injEq, List.cons.injEq] at h2
            obtain ⟨_, rfl, rfl, _⟩ := h2
            exact ⟨List.mem_cons_self, List.mem_cons_of_mem _ List.mem_cons_self⟩
        · rw [decide_eq_false h0]
          exact iteF ⟨by show 0 ≤ sizeLine; decide, fun tv ntv => ⟨tv, [], rfl, same_upd ntv, upd_same, fun t ht => (nomatch ht), fun _ _ _ _ h => absurd h h0⟩⟩
      rintro σ H6 ⟨tv, ts, rfl, f6, htv, htl, hta⟩
      have g6 := f5.trans f6
      have hF6 := f6 _ _ hF5
      have hW6 := f6 _ _ hW5
      have tvF : tv ≠ F := ne_of htv hF6 (by intro z; cases z)
      have tvW : tv ≠ W := ne_of htv hW6 (by intro z; cases z)
      refine ⟨_, rfl, tv, rfl, ⟨_, tup_of htv⟩, for_tup (K := K) (a := tv) (xs := ts.map V.int) (fun i σ H7 => ∃ v6 ks' ws', σ = [some (.ref x), some (.int z), some (.ref F), some (.ref W), some (.int pl), some (.ref tv), v6] ∧ Same H1 H7 ∧ H7 tv = some (.tup (ts.map V.int)) ∧ H7 F = some (.dK (dTrue ks')) ∧ H7 W = some (.lst (ws'.map V.int)) ∧ ks'.Nodup ∧ (∀ j ∈ ks, j ∈ ks') ∧ (∀ j ∈ ks', Led rows z j) ∧ (∀ j ∈ ws', j ∈ ks') ∧ (∀ j ∈ ks', j ∈ ws' ∨ j = pl ∨ ∀ q a b r, 0 ≤ j → rows[j.toNat]? = some (q :: a :: b :: r) → a ∈ ks' ∧ b ∈ ks') ∧ (∀ t ∈ ts.take i, t ∈ ks') ∧ ws'.length + ks.length = ws.length + ks'.length ∧ ks.length ≤ ks'.length)
        ⟨_, ks, ws, rfl, g6, htv, hF6, hW6, B.nd, fun j hj => hj, B.led, fun j hj => B.sub j (List.mem_append.mpr (.inl hj)), fun j hj => ?_, fun _ h => (nomatch h), rfl, Nat.le_refl _⟩ (fun i σ H7 _ ⟨_, _, _, _, _, h, _⟩ => tup_of h) ?_ ?_⟩
      · rcases B.done j hj with h | h
        · rcases List.mem_append.mp h with h | h
          · exact .inl h
          · exact .inr (.inl (List.mem_singleton.mp h))
        · exact .inr (.inr h)
      · rintro i y σ H7 hi ⟨v6, ks', ws', rfl, f7, htv7, hF7, hW7, nd, hks, hled, hws, hcl, htk, hln, hle⟩
        obtain ⟨t, ht, rfl⟩ := get_map_int hi
        have htm := List.mem_of_getElem? ht
        refine ⟨_, rfl, _, rfl, F, _, rfl, .inl ⟨_, Sum.inl t, .inl hF7, rfl, rfl⟩, _, rfl, ?_⟩
        rw [valV_dTrue]
        by_cases hin : t ∈ ks'
        · rw [if_pos hin]
          refine iteF ⟨_, ks', ws', rfl, f7, htv7, hF7, hW7, nd, hks, hled, hws, hcl, fun u hu => ?_, hln, hle⟩
          rw [take_get ht] at hu
          rcases List.mem_append.mp hu with hu | hu
          · exact htk u hu
          · rw [List.mem_singleton.mp hu]; exact hin
        · rw [if_neg hin]
          refine iteT ?_
          have kl' := kT ks' nd hled
          have sz : (dTrue ks').length < sizeLine := by unfold dTrue; rw [List.length_map, sizeLine_eq]; omega
          refine ⟨_, rfl, _, rfl, F, _, rfl, .inl ⟨_, Sum.inl t, hF7, rfl, sz, rfl⟩, ?_⟩
          rw [put_dTrue hin]
          have hW8 : upd H7 F (.dK (dTrue (ks' ++ [t]))) W = some (.lst (ws'.map V.int)) := by rw [upd_ne hWF]; exact hW7
          refine ⟨_, rfl, .inl ⟨rfl, _, lst_of hW8⟩, _, rfl, W, _, _, rfl, rfl, hW8, by rw [List.length_map, sizeLine_eq]; omega, _, ks' ++ [t], ws' ++ [t], rfl, (f7.mut nF).mut nW, by rw [upd_ne tvW, upd_ne tvF]; exact htv7, by rw [upd_ne hWF.symm, upd_same], by rw [upd_same, List.map_append]; rfl, ?_, fun j hj => List.mem_append.mpr (.inl (hks j hj)), fun j hj => ?_, fun j hj => ?_, fun j hj => ?_, fun u hu => ?_, by rw [List.length_append, List.length_append, List.length_singleton]; omega, by rw [List.length_append]; omega⟩
          · exact nd_snoc nd hin
          · rcases List.mem_append.mp hj with hj | hj
            · exact hled j hj
            · rw [List.mem_singleton.mp hj]; exact htl t htm
          · rcases List.mem_append.mp hj with hj | hj
            · exact List.mem_append.mpr (.inl (hws j hj))
            · exact List.mem_append.mpr (.inr hj)
          · rcases List.mem_append.mp hj with hj | hj
            · rcases hcl j hj with h | h | h
              · exact .inl (List.mem_append.mpr (.inl h))
              · exact .inr (.inl h)
              · exact .inr (.inr fun q a b r j0 hr => ⟨List.mem_append.mpr (.inl (h q a b r j0 hr).1), List.mem_append.mpr (.inl (h q a b r j0 hr).2)⟩)
            · exact .inl (List.mem_append.mpr (.inr hj))
          · rw [take_get ht] at hu
            rcases List.mem_append.mp hu with hu | hu
            · exact List.mem_append.mpr (.inl (htk u hu))
            · exact List.mem_append.mpr (.inr hu)
      · rintro σ H7 ⟨v6, ks', ws', rfl, f7, htv7, hF7, hW7, nd, hks, hled, hws, hcl, htk, hln, hle⟩
        rw [List.length_map, List.take_length] at htk
        have kl' := kT ks' nd hled
        refine ⟨⟨_, _, _, ks', ws', rfl, f7, hF7, hW7, ⟨nd, hks _ B.zin, hled, hws, by omega, fun j hj => ?_⟩⟩, ?_⟩
        · rcases hcl j hj with h | rfl | h
          · exact .inl h
          · exact .inr fun q a b r j0 hr => ⟨htk _ (hta q a b r j0 hr).1, htk _ (hta q a b r j0 hr).2⟩
          · exact .inr h
        · have l1 : lenD (H7 F) = ks'.length := by rw [hF7]; simp [lenD, dTrue]
          have l2 : lenL (H7 W) = ws'.length := by rw [hW7]; simp [lenL]
          rw [l1, l2, lD, lL]
          omega
    rintro σ H4 ⟨v4, v5, v6, ks, rfl, f4, hF4, B⟩
    refine ⟨_, rfl, F, _, rfl, hF4, fun D nD => ?_⟩
    rw [keys_dTrue]
    refine k hz _ D ks (f4.trans (same_upd nD)) upd_same (fun j => ⟨fun hj => B.led j hj, fun hj => ?_⟩) B.nd
    exact hj.sub B.zin fun j q a b r hj j0 hr => ((B.done j hj).elim (fun h => (nomatch h)) fun h => h q a b r j0 hr)
theorem led_len {rows : List (List Int)} {e o z : Int} (G : GoodW rows e o) (hz : -e ≤ z ∧ z < rows.length) {l : List Int} (nd : l.Nodup) (hl : ∀ j, j ∈ l ↔ Led rows z j) : l.length ≤ 460 := by
  have g1 := G.e1
  have g2 := G.e2
  have gl := G.len
  have := nodup_le l (posL e.toNat rows.length) nd fun j hj => by
    obtain ⟨b1, b2⟩ := ((hl j).mp hj).bounds G hz.1 hz.2
    exact mem_pos (by omega) b2
  rw [pos_len] at this
  omega
theorem cap48 {c : Nat} {acc : List Int} (hr : ∀ x ∈ acc, 0 ≤ x ∧ x < 48) (hL : ∀ L : List Int, (∀ k ∈ acc, k ∈ L) → c ≤ L.length) : c < 64 := by
  have := hL ask48 fun k hk => mem_ask.mpr (hr k hk)
  have l48 : ask48.length = 48 := by unfold ask48; rw [List.length_map, List.length_range]
  omega
theorem ok_Web_reached (T : Txt K mg a) : FnOk P w K mg base CX0 4 a.f_Web_reached a.d_Web_reached P_Web_reached (spReached a.c_Web) := by
  refine T.F_Web_reached.ok sc_Web_reached (fun vs H Q E h => ?_) (fun cdv A outer s H vs Q E hr h => ?_)
  · obtain ⟨x, rows, e, o, rfl, _⟩ := h
    rfl
  · obtain ⟨x, rows, e, o, rfl, hw, G, hn, k⟩ := h
    refine ⟨_, (pss_one (ps_ret (pe_callTy call_tuple_of (by rfl) T.z_tuple (by decide +kernel) (pa_cons (pe_callB (cr_sortedSet rfl) (by rfl) T.z_sorted (by decide +kernel) (pa_cons (pe_callTy (cr_setOfL rfl) (by rfl) T.z_set (by decide +kernel) (pa_cons (pe_lc (own := [("place", 1)]) (g := gName 1) (tt := (tTest (tOp (rI0 fun i j => .bl (decide (j ≤ i))) (tVar 1) (tC (.int 0))))) (te := (tVar 1)) rfl sc_Web_reached.nd (pi_list (pe_meth (pv 0) T.cl_Web T.m_Web_led_to (ok_Web_led_to T) (hr.mono (by decide)) T.b_Web_led_to .nil passL (pa_cons (pe_fld (pv 0) (by rfl)) pa_nil))) (blkOk_by (N := N_Web_reached) (sc := defScope s_Web_reached) (by decide +kernel)) (fun _ _ _ _ _ => pg_name (i := 1) sc_Web_reached.nd rfl (Or.inl rfl)) (fun _ _ _ _ _ => by exact (pts_one (pt_cmpR op_ge (pv 1) pe_int (nomark _)))) (fun _ _ _ _ _ => by exact (pv 1))) pa_nil)) pa_nil)) pa_nil)))), ?_⟩
    obtain ⟨dx, nt, as, hx, hnt, hrows⟩ := id hw
    have hz : -e ≤ o ∧ o < rows.length := ⟨G.o1, G.o2⟩
    have ge2 := G.e2
    refine ⟨_, rfl, x, dx, _, rfl, hx, rfl, _, rfl, x, _, dx, _, _, rfl, hx, T.cl_Web, T.nA_Web_start, rfl, x, rows, e, o, o, rfl, hw, G, Bd.small (by omega) (by omega), fun _ H1 D l f1 hD hl nd => ?_, fun h => absurd hz h⟩
    have ll := led_len G hz nd hl
    refine ⟨D, rfl, ⟨_, lst_of hD⟩, fun C nC => ?_⟩
    refine lc_list (K := K) (a := D) (xs := l.map V.int) (fun i H2 => Same H1 H2 ∧ ∃ acc : List Int, H2 C = some (.lst (acc.map V.int)) ∧ acc.length ≤ i ∧ ∀ k, k ∈ acc ↔ (0 ≤ k ∧ k ∈ l.take i)) ⟨same_upd nC, [], upd_same, Nat.le_refl _, fun k => ⟨fun h => (nomatch h), fun ⟨_, h⟩ => (nomatch h)⟩⟩ (fun i H2 _ h => lst_of (h.1 _ _ hD)) (fun i y H2 hi h => ?_) (fun H2 h => ?_)
    · obtain ⟨f2, acc, hC, hacc, hm⟩ := h
      obtain ⟨p, hp, rfl⟩ := get_map_int hi
      have hil : i < l.length := (List.getElem?_eq_some_iff.mp hp).1
      refine ⟨rfl, _, rfl, _, _, rfl, rfl, _, rfl, ite2 (fun h0 => ?_) (fun h0 => ?_)⟩
      · have h0 : 0 ≤ p := of_decide_eq_true h0
        refine ⟨_, rfl, _, hC, by rw [List.length_map, sizeLine_eq]; omega, f2.mut nC, acc ++ [p], by rw [upd_same, List.map_append]; rfl, by rw [List.length_append, List.length_singleton]; omega, fun k => ?_⟩
        rw [take_get hp, List.mem_append, List.mem_singleton, hm, List.mem_append, List.mem_singleton]
        constructor
        · rintro (⟨h1, h2⟩ | rfl)
          · exact ⟨h1, .inl h2⟩
          · exact ⟨h0, .inr rfl⟩
        · rintro ⟨h1, h2 | h2⟩
          · exact .inl ⟨h1, h2⟩
          · exact .inr h2
      · refine ⟨f2, acc, hC, by omega, fun k => ?_⟩
        rw [take_get hp, hm, List.mem_append, List.mem_singleton]
        constructor
        · rintro ⟨h1, h2⟩
          exact ⟨h1, .inl h2⟩
        · rintro ⟨h1, h2 | h2⟩
          · exact ⟨h1, h2⟩
          · exact absurd (decide_eq_true (show 0 ≤ p by omega)) h0
    · obtain ⟨f2, acc, hC, hacc, hm⟩ := h
      rw [List.length_map] at hacc hm
      rw [List.take_length] at hm
      have hA : IsReached rows o acc := fun k => by rw [hm, hl]
      have hr : ∀ x ∈ acc, 0 ≤ x ∧ x < 48 := fun x hx => by
        obtain ⟨h0, h1⟩ := (hA x).mp hx
        have := h1.bounds G hz.1 hz.2
        omega
      refine ⟨C, acc, rfl, lst_of hC, by omega, fun p c np hc hL => ?_⟩
      refine ⟨p, _, c, rfl, upd_same, cap48 hr hL, fun ns r hs hms hlen nr => ?_⟩
      have ens : ns = norm acc := norm_of_sorted hs (fun x => by rw [hms, decide_eq_true_eq]) hr
      subst ens
      refine ⟨r, _, rfl, .inl ⟨lst_of upd_same, fun t nt => ?_⟩⟩
      exact k _ t acc (((f1.trans f2).trans (same_upd np)).trans ((same_upd nr).trans (same_upd nt))) upd_same hA
end
end K27

namespace K27
open PySem PySem.Spec PyProof.Rows L2
section
variable {P : Program} {w : World} {K : PySem.W.Frag} {mg : Str → Option Value} {base : Heap} {a : Ad}
theorem rgc_down : ∀ n : Fin 13, RgC ((n.val : Int) - 1) (-1) (-1) n.val := by unfold RgC; decide
/-- what stands behind i turns of _law_nodes -/
def NT (H0 : Hp) (p c : Addr) (N : Nat) (e : Int) (l : List Int) (Nn Bb : Addr) (i : Nat) (H : Hp) (as : List Addr) (rows : List (List Int)) (bs : List Addr) (bels : List (List Int)) (B0 : List V) : Prop :=
  H Nn = some (.lst (List.replicate (N - i) V.non ++ as.map V.ref)) ∧ H Bb = some (.lst (B0.take (N - i) ++ bs.map V.ref)) ∧ B0.length = N ∧ RowsAt H as rows ∧ rows.length = i ∧ bs.length = i ∧ GoodS e N l rows bels ∧
  (∀ (j : Nat) b m, bs[j]? = some b → bels[j]? = some m → H b = some (.lst (m.map V.int)) ∧ m.length + 1 ≤ 3 ^ i ∧ b ≠ Nn ∧ b ≠ Bb ∧ b ≠ p ∧ b ≠ c) ∧ Fr p c H0 H ∧ Stt p c H
theorem pow3 {i : Nat} (h : i ≤ 13) : 3 ^ i ≤ 1594323 := Nat.le_trans (Nat.pow_le_pow_right (by decide) h) (by decide)
theorem set_mid {α : Type} (a : List α) (x y : α) (b : List α) : (a ++ x :: b).set a.length y = a ++ y :: b := by
  rw [List.set_append_right _ _ (Nat.le_refl _), Nat.sub_self]
  rfl
def spNodesT : Sp := fun vs H Q _ => ∃ (p c pl : Addr) (l : List Int) (most : Nat) (e : Int), vs = [.ref p, .ref pl, .int (most : Int), .int e] ∧ Stt p c H ∧ H pl = some (.lst (l.map V.int)) ∧ pl ≠ p ∧ pl ≠ c ∧ Qn l ∧ l ≠ [] ∧ l.length ≤ 5 ∧ most ≤ 12 ∧ 1 ≤ e ∧ e ≤ 60 ∧
  ∀ H' D as rows bels, H D = none → Fr p c H H' → Stt p c H' → H' D = some (.lst (as.map V.ref)) → RowsAt H' as rows → GoodS e rows.length l rows bels → rows.length ≤ most → Q (.ref D) H'
theorem ok_l_nodes (T : Txt K mg a) : FnOk P w K mg base CX0 3 a.f_l_nodes a.d_l_nodes P_l_nodes spNodesT := by
  refine T.F_l_nodes.ok sc_l_nodes (fun vs H Q E h => ?_) (fun cdv A outer s H vs Q E hr h => ?_)
  · obtain ⟨p, c, pl, l, most, e, rfl, _⟩ := h
    rfl
  · obtain ⟨p, c, pl, l, most, e, rfl, hs, hpl, pl1, pl2, hqn, hne, hll, hm, e1, e2, k⟩ := h
    refine ⟨_, (Evl.pss_cut (ps_set (i := 4) sc_l_nodes.nd rfl (Or.inr rfl) (pe_call (ok_l_draw T) (hr.mono (by decide)) (by rfl) T.g_l_draw T.k_l_draw T.b_l_draw .nil pass0 (pa_cons (pv 0) (pa_cons (pe_op op_add (pv 2) pe_int) pa_nil))))
  (Evl.pss_cut (ps_setLc (i := 5) (own := [("_law_k", 13)]) (g := gName 13) (tt := tYes) (te := (tC .non)) rfl sc_l_nodes.nd rfl rfl (sw_true rfl rfl rfl (by decide +kernel)) (pi_range1 (by rfl) T.z_range (pa_cons (pv 4) pa_nil)) (blkOk_by (N := N_l_nodes) (sc := defScope s_l_nodes) (by decide +kernel)) (fun _ _ _ _ _ => pg_name (i := 13) sc_l_nodes.nd rfl (Or.inl rfl)) (fun _ _ _ _ _ => pts_nil) (fun _ _ _ _ _ => by exact pe_non))
  (Evl.pss_cut (ps_setLc (i := 6) (own := [("_law_k", 13)]) (g := gName 13) (tt := tYes) (te := (tLst tNil)) rfl sc_l_nodes.nd rfl rfl (sw_true rfl rfl rfl (by decide +kernel)) (pi_range1 (by rfl) T.z_range (pa_cons (pv 4) pa_nil)) (blkOk_by (N := N_l_nodes) (sc := defScope s_l_nodes) (by decide +kernel)) (fun _ _ _ _ _ => pg_name (i := 13) sc_l_nodes.nd rfl (Or.inl rfl)) (fun _ _ _ _ _ => pts_nil) (fun _ _ _ _ _ => by exact (pe_lst pa_nil)))
  (Evl.pss_cut (ps_for PassesOwn.never rfl (pi_range3 (by rfl) T.z_range (pa_cons (pe_op op_sub (pv 4) pe_int) (pa_cons (pe_un un_neg pe_int) (pa_cons (pe_un un_neg pe_int) pa_nil)))) (pg_name (i := 7) sc_l_nodes.nd rfl (Or.inr rfl))
    (Evl.pss_cut (ps_setLc (i := 8) (own := [("_law_k", 13)]) (g := gName 13) (tt := tYes) (te := (tCall (spTgt K) [] E0 (tCons (tVar 0) (tCons (tVar 7) (tCons (tVar 4) (tCons (tVar 3) tNil)))))) rfl sc_l_nodes.nd rfl rfl (sw_true rfl rfl rfl (by decide +kernel)) (pi_range1 (by rfl) T.z_range (pa_cons (pe_op op_sub pe_int (pe_callTy call_int1 (by rfl) T.z_int (by decide +kernel) (pa_cons (pe_cmpR op_eq (pe_call (ok_l_draw T) (hr.mono (by decide)) (by rfl) T.g_l_draw T.k_l_draw T.b_l_draw .nil pass0 (pa_cons (pv 0) (pa_cons pe_int pa_nil))) pe_int (nomark _)) pa_nil))) pa_nil)) (blkOk_by (N := N_l_nodes) (sc := defScope s_l_nodes) (by decide +kernel)) (fun _ _ _ _ _ => pg_name (i := 13) sc_l_nodes.nd rfl (Or.inl rfl)) (fun _ _ _ _ _ => pts_nil) (fun _ _ _ _ _ => by exact (pe_call (ok_l_target T) (hr.mono (by decide)) (by rfl) T.g_l_target T.k_l_target T.b_l_target .nil pass0 (pa_cons (pv 0) (pa_cons (pv 7) (pa_cons (pv 4) (pa_cons (pv 3) pa_nil)))))))
  (Evl.pss_cut (ps_set (i := 9) sc_l_nodes.nd rfl (Or.inr rfl) (pe_lst pa_nil))
  (Evl.pss_cut (ps_for PassesOwn.never rfl (pi_list (pv 8)) (pg_name (i := 10) sc_l_nodes.nd rfl (Or.inl rfl))
    (pss_one (ps_set (i := 9) sc_l_nodes.nd rfl (Or.inr rfl) (pe_op op_cat (pv 9) (pe_call (ok_l_below T) (hr.mono (by decide)) (by rfl) T.g_l_below T.k_l_below T.b_l_below .nil pass0 (pa_cons (pv 6) (pa_cons (pv 10) pa_nil)))))))
  (Evl.pss_cut (ps_setLc (i := 11) (own := [("_law_question", 12)]) (g := gName 12) (tt := (tTest (tOp (rIn K true) (tVar 12) (tVar 9)))) (te := (tVar 12)) rfl sc_l_nodes.nd rfl rfl (sw_true rfl rfl rfl (by decide +kernel)) (pi_list (pv 1)) (blkOk_by (N := N_l_nodes) (sc := defScope s_l_nodes) (by decide +kernel)) (fun _ _ _ _ _ => pg_name (i := 12) sc_l_nodes.nd rfl (Or.inl rfl)) (fun _ _ _ _ _ => by exact (pts_one (pt_cmpR op_notIn_seq (pv 12) (pv 9) (by with_unfolding_all rfl)))) (fun _ _ _ _ _ => by exact (pv 12)))
  (Evl.pss_cut (ps_if (pt_not (pt_truth (pv 11) (by intro _; rfl)))
    (pss_cons (ps_setLc (i := 8) (own := [("_law_target_here", 10)]) (g := gName 10) (tt := tYes) (te := (tOp (rI0 fun i j => .int (i - j)) (tUn (rU fun i => .int (-i)) (tC (.int 1))) (tCall (spDr K) [] E0 (tCons (tVar 0) (tCons (tVar 3) tNil))))) rfl sc_l_nodes.nd rfl rfl (sw_true rfl rfl rfl (by decide +kernel)) (pi_list (pv 8)) (blkOk_by (N := N_l_nodes) (sc := defScope s_l_nodes) (by decide +kernel)) (fun _ _ _ _ _ => pg_name (i := 10) sc_l_nodes.nd rfl (Or.inl rfl)) (fun _ _ _ _ _ => pts_nil) (fun _ _ _ _ _ => by exact (pe_op op_sub (pe_un un_neg pe_int) (pe_call (ok_l_draw T) (hr.mono (by decide)) (by rfl) T.g_l_draw T.k_l_draw T.b_l_draw .nil pass0 (pa_cons (pv 0) (pa_cons (pv 3) pa_nil))))))
  (Evl.pss_cut (ps_set (i := 9) sc_l_nodes.nd rfl (Or.inr rfl) (pe_lst pa_nil))
  (pss_one (ps_set (i := 11) sc_l_nodes.nd rfl (Or.inl rfl) (pe_callTy call_list_of (by rfl) T.z_list (by decide +kernel) (pa_cons (pv 1) pa_nil))))))
    pss_nil)
  (Evl.pss_cut (ps_set (i := 12) sc_l_nodes.nd rfl (Or.inl rfl) (pe_ix ix_list (pv 11) (pe_call (ok_l_draw T) (hr.mono (by decide)) (by rfl) T.g_l_draw T.k_l_draw T.b_l_draw .nil pass0 (pa_cons (pv 0) (pa_cons (pe_callB call_len_seq (by rfl) T.z_len (by decide +kernel) (pa_cons (pv 11) pa_nil)) pa_nil))) (by intro _ _; rfl)))
  (Evl.pss_cut (ps_asg (pe_op op_catA (pe_tup (pa_cons (pv 12) pa_nil)) (pe_callTy call_tuple_of (by rfl) T.z_tuple (by decide +kernel) (pa_cons (pv 8) pa_nil))) (pg_sub (pv 5) (pv 7) set_list))
  (pss_one (ps_asg (pe_op op_cat (pv 9) (pe_lst (pa_cons (pv 12) pa_nil))) (pg_sub (pv 6) (pv 7) set_list)))))))))))
  (pss_one (ps_ret (pv 5))))))), ?_⟩
    refine ⟨fun σ H1 => ∃ N : Nat, N ≤ most ∧ σ = [some (.ref p), some (.ref pl), some (.int (most : Int)), some (.int e), some (.int (N : Int)), none, none, none, none, none, none, none, none, none] ∧ Fr p c H H1 ∧ Stt p c H1, ?_, ?_⟩
    · refine ⟨_, rfl, _, rfl, _, _, rfl, rfl, p, c, _, rfl, hs, by omega, by omega, fun H1 r f1 s1 r0 r1 => ⟨r.toNat, by omega, ?_, f1, s1⟩⟩
      rw [Int.toNat_of_nonneg r0]
      rfl
    rintro σ H1 ⟨N, hN, rfl, f1, s1⟩
    refine ⟨fun σ H2 => ∃ Nn, H Nn = none ∧ σ = [some (.ref p), some (.ref pl), some (.int (most : Int)), some (.int e), some (.int (N : Int)), some (.ref Nn), none, none, none, none, none, none, none, none] ∧ H2 Nn = some (.lst (List.replicate N V.non)) ∧ Nn ≠ p ∧ Nn ≠ c ∧ Fr p c H H2 ∧ Stt p c H2, ?_, ?_⟩
    · refine ⟨_, rfl, _, rfl, by omega, by omega, fun D nD => ?_⟩
      rw [Int.toNat_natCast]
      refine lc_range (lo := 0) (n := N) (fun j H2 => Same H1 H2 ∧ H2 D = some (.lst (List.replicate j V.non))) ⟨same_upd nD, upd_same⟩ (fun j H2 hj h => ?_) (fun H2 h => ?_)
      · obtain ⟨f2, hD⟩ := h
        exact ⟨rfl, tyes ⟨_, hD, by rw [List.length_replicate, sizeLine_eq]; omega, f2.mut nD, by rw [upd_same, List.replicate_succ']⟩⟩
      · obtain ⟨f2, hD⟩ := h
        exact ⟨D, f1.free s1 nD, rfl, hD, (s1.ne nD).1, (s1.ne nD).2, f1.trans f2.fr, s1.same f2⟩
    rintro σ H2 ⟨Nn, nNn, rfl, hNn, nn1, nn2, f2, s2⟩
    refine ⟨fun σ H3 => ∃ Bb B0, σ = [some (.ref p), some (.ref pl), some (.int (most : Int)), some (.int e), some (.int (N : Int)), some (.ref Nn), some (.ref Bb), none, none, none, none, none, none, none] ∧ H Bb = none ∧ H3 Nn = some (.lst (List.replicate N V.non)) ∧ H3 Bb = some (.lst B0) ∧ B0.length = N ∧ Nn ≠ Bb ∧ Bb ≠ p ∧ Bb ≠ c ∧ Fr p c H H3 ∧ Stt p c H3, ?_, ?_⟩
    · refine ⟨_, rfl, _, rfl, by omega, by omega, fun D nD => ?_⟩
      rw [Int.toNat_natCast]
      refine lc_range (lo := 0) (n := N) (fun j H3 => Same H2 H3 ∧ ∃ B0, H3 D = some (.lst B0) ∧ B0.length = j) ⟨same_upd nD, [], upd_same, rfl⟩ (fun j H3 hj h => ?_) (fun H3 h => ?_)
      · obtain ⟨f3, B0, hD, hB⟩ := h
        refine ⟨rfl, tyes ⟨by show 0 ≤ sizeLine; decide, fun x nx => ⟨_, (same_upd nx) _ _ hD, by rw [hB, sizeLine_eq]; omega, (f3.trans (same_upd nx)).mut nD, _, upd_same, by rw [List.length_append, hB]; rfl⟩⟩⟩
      · obtain ⟨f3, B0, hD, hB⟩ := h
        exact ⟨D, B0, rfl, f2.free s2 nD, f3 _ _ hNn, hD, hB, ne_of_none hNn nD, (s2.ne nD).1, (s2.ne nD).2, f2.trans f3.fr, s2.same f3⟩
    rintro σ H3 ⟨Bb, B0, rfl, nBb, hNn, hBb, hB0, nNB, bb1, bb2, f3, s3⟩
    refine ⟨fun σ H4 => ∃ v7 v8 v9 v10 v11 v12, ∃ (as : List Addr) (rows : List (List Int)) (bs : List Addr) (bels : List (List Int)), σ = [some (.ref p), some (.ref pl), some (.int (most : Int)), some (.int e), some (.int (N : Int)), some (.ref Nn), some (.ref Bb), v7, v8, v9, v10, v11, v12, none] ∧ NT H p c N e l Nn Bb N H4 as rows bs bels B0, ?_, ?_⟩
    · refine ⟨_, rfl, _, _, rfl, rfl, _, rfl, _, rfl, _, _, _, N, rfl, rgc_down ⟨N, by omega⟩, for_rangeC (lo := (N : Int) - 1) (c := -1) (n := N) (fun i σ H4 => ∃ v7 v8 v9 v10 v11 v12, ∃ (as : List Addr) (rows : List (List Int)) (bs : List Addr) (bels : List (List Int)), σ = [some (.ref p), some (.ref pl), some (.int (most : Int)), some (.int e), some (.int (N : Int)), some (.ref Nn), some (.ref Bb), v7, v8, v9, v10, v11, v12, none] ∧ NT H p c N e l Nn Bb i H4 as rows bs bels B0)
        ⟨_, _, _, _, _, _, [], [], [], [], rfl, by rw [hNn, Nat.sub_zero, List.map_nil, List.append_nil], by rw [hBb, Nat.sub_zero, List.map_nil, List.append_nil, ← hB0, List.take_length], hB0, ⟨rfl, fun j _ _ h => by simp at h⟩, rfl, rfl, trivial, fun j _ _ h => by simp at h, f3, s3⟩ ?_ (fun σ H4 h => h)⟩
      rintro i σ H1 hi ⟨v7, v8, v9, v10, v11, v12, as, rows, bs, bels, rfl, hNn, hBb, hB0, hrows, hrl, hbl, hgs, hbs, f1, s1⟩
      obtain ⟨g, hg⟩ : ∃ g : Nat, g = N - (rows.length + 1) := ⟨_, rfl⟩
      have hgi : (N : Int) - 1 + (i : Int) * -1 = (g : Int) := by omega
      have hNi : N - i = g + 1 := by omega
      have p3 : 3 ^ i ≤ 531441 := Nat.le_trans (Nat.pow_le_pow_right (by decide) (show i ≤ 12 by omega)) (by decide)
      have p30 : 0 < 3 ^ i := Nat.pow_pos (by decide)
      rw [hgi]
      rw [hNi] at hNn hBb
      have LB : (B0.take (g + 1)).length = g + 1 := by rw [List.length_take]; omega
      -- the targets
      refine ⟨fun σ H3 => ∃ Tl, ∃ ts : List Int, σ = [some (.ref p), some (.ref pl), some (.int (most : Int)), some (.int e), some (.int (N : Int)), some (.ref Nn), some (.ref Bb), some (.int (g : Int)), some (.ref Tl), v9, v10, v11, v12, none] ∧ H1 Tl = none ∧ Tl ≠ p ∧ Tl ≠ c ∧ H3 Tl = some (.lst (ts.map V.int)) ∧ (ts.length = 2 ∨ ts.length = 3) ∧ (∀ t ∈ ts, TgtOk e N g t) ∧ Fr p c H1 H3 ∧ Stt p c H3, ?_, ?_⟩
      · refine ⟨_, rfl, p, c, 4, rfl, s1, by decide, by decide, fun H2 r f2 s2 r0 r1 => ⟨rfl, .inr ⟨_, rfl, _, _, rfl, rfl, _, rfl, ?_⟩⟩⟩
        obtain ⟨wd, hwd, hw2⟩ : ∃ wd : Nat, (3 : Int) - (if decide (V.int r = V.int 3) = true then 1 else 0) = (wd : Int) ∧ (wd = 2 ∨ wd = 3) := by
          by_cases h : decide (V.int r = V.int 3) = true
          · exact ⟨2, by rw [if_pos h]; rfl, .inl rfl⟩
          · exact ⟨3, by rw [if_neg h]; rfl, .inr rfl⟩
        rw [hwd]
        refine ⟨by omega, by omega, fun D nD => ?_⟩
        rw [Int.toNat_natCast]
        obtain ⟨d1, d2⟩ := s2.ne nD
        refine lc_range (lo := 0) (n := wd) (fun j H3 => Fr p c H2 H3 ∧ Stt p c H3 ∧ ∃ ts : List Int, H3 D = some (.lst (ts.map V.int)) ∧ ts.length = j ∧ ∀ t ∈ ts, TgtOk e N g t) ⟨(same_upd nD).fr, s2.upd nD, [], upd_same, rfl, fun _ h => (nomatch h)⟩ (fun j H3 hj h => ?_) (fun H3 h => ?_)
        · obtain ⟨f3, s3, ts, hD, htl, htt⟩ := h
          refine ⟨rfl, tyes ⟨_, rfl, _, rfl, _, rfl, _, rfl, p, c, g, N, e, rfl, s3, by omega, by omega, by omega, e1, e2, fun H4 t f4 s4 ht => ?_⟩⟩
          refine ⟨_, f4.2 _ _ d1 d2 hD, by rw [List.length_map, sizeLine_eq]; omega, (f3.trans f4).mut nD, s4.mut d1 d2, ts ++ [t], by rw [upd_same, List.map_append]; rfl, by rw [List.length_append, htl]; rfl, fun y hy => ?_⟩
          rcases List.mem_append.mp hy with hy | hy
          · exact htt y hy
          · rw [List.mem_singleton.mp hy]; exact ht
        · obtain ⟨f3, s3, ts, hD, htl, htt⟩ := h
          exact ⟨D, ts, rfl, f2.free s2 nD, d1, d2, hD, by omega, htt, f2.trans f3, s3⟩
      rintro σ H3 ⟨Tl, ts, rfl, nTl, tl1, tl2, hT, htl, hrt, f3, s3⟩
      have hNn3 := f3.2 _ _ nn1 nn2 hNn
      have hBb3 := f3.2 _ _ bb1 bb2 hBb
      have hbs3 : ∀ (j : Nat) b m, bs[j]? = some b → bels[j]? = some m → H3 b = some (.lst (m.map V.int)) ∧ m.length + 1 ≤ 3 ^ i ∧ b ≠ Nn ∧ b ≠ Bb ∧ b ≠ p ∧ b ≠ c := fun j b m x y => by
        obtain ⟨h1, h2, h3, h4, h5, h6⟩ := hbs j b m x y
        exact ⟨f3.2 _ _ h5 h6 h1, h2, h3, h4, h5, h6⟩
      -- what is below a target
      have bel : ∀ (t : Int) (H4 : Hp) (Q : VK), Same H3 H4 → TgtOk e N g t → (∀ (H5 : Hp) (b : Addr) (m : List Int), Same H4 H5 → H5 b = some (.lst (m.map V.int)) → m.length ≤ 3 ^ i - 1 → (0 ≤ t → ∃ b', bels[(t - g - 1).toNat]? = some b' ∧ ∀ z ∈ b', z ∈ m) → Q (.ref b) H5) → spBelow [.ref Bb, .int t] H4 Q E0 := by
        intro t H4 Q e4 ht kk
        refine ⟨Bb, _, t, rfl, e4 _ _ hBb3, fun t0 D nD => kk _ D [] (same_upd nD) upd_same (Nat.zero_le _) (fun h => absurd h (by omega)), fun t0 => ?_⟩
        have tg : (g : Int) < t := Int.not_le.mp fun hle => ht.2.2 ⟨t0, hle⟩
        have tN := ht.2.1
        obtain ⟨d, hd⟩ : ∃ d : Nat, t - g - 1 = (d : Int) := ⟨(t - g - 1).toNat, by omega⟩
        have hdb : d < bs.length := by omega
        have hlb := hgs.len
        have hdl : d < bels.length := by omega
        have hbd : bs[d]? = some bs[d] := List.getElem?_eq_getElem hdb
        have hld : bels[d]? = some bels[d] := List.getElem?_eq_getElem hdl
        obtain ⟨hb1, hb2, _⟩ := hbs3 d _ _ hbd hld
        refine ⟨.ref bs[d], ?_, kk H4 bs[d] bels[d] (Same.refl _) (e4 _ _ hb1) (by omega) fun _ => ⟨_, by rw [hd, Int.toNat_natCast]; exact hld, fun z hz => hz⟩⟩
        rw [List.getElem?_append_right (by rw [LB]; omega), LB, show t.toNat - (g + 1) = d by omega, List.getElem?_map, hbd]
        rfl
      -- what is used
      refine ⟨fun σ H4 => ∃ U, σ = [some (.ref p), some (.ref pl), some (.int (most : Int)), some (.int e), some (.int (N : Int)), some (.ref Nn), some (.ref Bb), some (.int (g : Int)), some (.ref Tl), some (.ref U), v10, v11, v12, none] ∧ H3 U = none ∧ H4 U = some (.lst []) ∧ Same H3 H4, ?_, ?_⟩
      · exact ⟨by show 0 ≤ sizeLine; decide, fun U nU => ⟨U, rfl, nU, upd_same, same_upd nU⟩⟩
      rintro σ H4' ⟨U0, rfl, nU0, hU0, e40⟩
      refine ⟨fun σ H4 => ∃ (U : Addr) (u : List Int) (v10 : Option V), σ = [some (.ref p), some (.ref pl), some (.int (most : Int)), some (.int e), some (.int (N : Int)), some (.ref Nn), some (.ref Bb), some (.int (g : Int)), some (.ref Tl), some (.ref U), v10, v11, v12, none] ∧ Same H3 H4 ∧ H3 U = none ∧ H4 U = some (.lst (u.map V.int)) ∧ u.length ≤ 3 * (3 ^ i - 1) ∧ ∀ t ∈ ts, 0 ≤ t → ∃ b', bels[(t - g - 1).toNat]? = some b' ∧ ∀ z ∈ b', z ∈ u, ?_, ?_⟩
      · refine ⟨_, rfl, Tl, rfl, ⟨_, lst_of (e40 _ _ hT)⟩, for_list (K := K) (a := Tl) (xs := ts.map V.int) (fun i2 σ H4 => ∃ (U : Addr) (u : List Int) (v10 : Option V), σ = [some (.ref p), some (.ref pl), some (.int (most : Int)), some (.int e), some (.int (N : Int)), some (.ref Nn), some (.ref Bb), some (.int (g : Int)), some (.ref Tl), some (.ref U), v10, v11, v12, none] ∧ Same H3 H4 ∧ H3 U = none ∧ H4 U = some (.lst (u.map V.int)) ∧ u.length ≤ i2 * (3 ^ i - 1) ∧ ∀ t ∈ ts.take i2, 0 ≤ t → ∃ b', bels[(t - g - 1).toNat]? = some b' ∧ ∀ z ∈ b', z ∈ u)
          ⟨U0, [], _, rfl, e40, nU0, hU0, by simp, fun _ h => (nomatch h)⟩ (fun i2 σ H6 _ ⟨_, _, _, _, e, _⟩ => lst_of (e _ _ hT)) ?_ ?_⟩
        · rintro i2 y σ H4 hi2 ⟨U, u, v10, rfl, e4, nU, hU, hul, hut⟩
          obtain ⟨t, htt, rfl⟩ := get_map_int hi2
          have hi3 : i2 < ts.length := (List.getElem?_eq_some_iff.mp htt).1
          have hm2 : i2 * (3 ^ i - 1) ≤ 2 * (3 ^ i - 1) := Nat.mul_le_mul_right _ (by omega)
          refine ⟨_, rfl, _, rfl, _, rfl, ?_⟩
          unfold tNil
          refine bel t H4 _ e4 (hrt t (List.mem_of_getElem? htt)) fun H5 b m e5 hb lm km => ?_
          refine ⟨U, b, _, _, rfl, rfl, e5 _ _ hU, hb, by rw [List.length_map, List.length_map, sizeLine_eq]; omega, fun U' nU' => ?_⟩
          refine ⟨U', u ++ m, _, rfl, (e4.trans e5).trans (same_upd nU'), (e4.trans e5).free nU', by rw [upd_same, List.map_append], by rw [List.length_append, Nat.succ_mul]; omega, fun t' ht' t0' => ?_⟩
          rw [take_get htt] at ht'
          rcases List.mem_append.mp ht' with mm | mm
          · obtain ⟨b', h1, h2⟩ := hut t' mm t0'
            exact ⟨b', h1, fun z hz => List.mem_append.mpr (.inl (h2 z hz))⟩
          · rw [List.mem_singleton.mp mm] at t0' ⊢
            obtain ⟨b', h1, h2⟩ := km t0'
            exact ⟨b', h1, fun z hz => List.mem_append.mpr (.inr (h2 z hz))⟩
        · rintro σ H4 ⟨U, u, v10, rfl, e4, nU, hU, hul, hut⟩
          rw [List.length_map, List.take_length] at *
          exact ⟨U, u, v10, rfl, e4, nU, hU, Nat.le_trans hul (Nat.mul_le_mul_right _ (by omega)), hut⟩
      rintro σ H4 ⟨U, u, v10, rfl, e4, nU, hU, hul, hut⟩
      have f4 := f3.trans e4.fr
      have s4 := s3.same e4
      have hT4 := e4 _ _ hT
      have hpl4 := (f1.trans f4).2 _ _ pl1 pl2 hpl
      -- what is free
      refine ⟨fun σ H5 => ∃ F : Addr, σ = [some (.ref p), some (.ref pl), some (.int (most : Int)), some (.int e), some (.int (N : Int)), some (.ref Nn), some (.ref Bb), some (.int (g : Int)), some (.ref Tl), some (.ref U), v10, some (.ref F), v12, none] ∧ H4 F = none ∧ Same H4 H5 ∧ H5 F = some (.lst ((l.filter fun x => !decide (x ∈ u)).map V.int)), ?_, ?_⟩
      · refine ⟨_, rfl, pl, rfl, ⟨_, lst_of hpl4⟩, fun D nD => lcL_filter (K := K) (ns := l) (fun x => !decide (x ∈ u)) (lst_of hpl4) nD (by omega) (fun _ => rfl) ?_ ?_ ?_⟩
        · intro z hz H' e' R r
          exact ⟨_, rfl, _, rfl, in_k (neg := true) (.inl (lst_of (e' _ _ hU))) ⟨_, rfl, r⟩⟩
        · intro z hz H' e' R r
          exact ⟨_, rfl, r⟩
        · intro H7 e7 h7
          exact ⟨D, rfl, nD, e7, h7⟩
      rintro σ H5 ⟨F, rfl, nF, e5, hF⟩
      have f5 := f4.trans e5.fr
      have s5 := s4.same e5
      have hU5 := e5 _ _ hU
      have hT5 := e5 _ _ hT4
      have nU5 := s3.ne nU
      have nF5 := s4.ne nF
      -- none is free
      refine ⟨fun σ H8 => ∃ (Tl U F : Addr) (ts u fr : List Int), σ = [some (.ref p), some (.ref pl), some (.int (most : Int)), some (.int e), some (.int (N : Int)), some (.ref Nn), some (.ref Bb), some (.int (g : Int)), some (.ref Tl), some (.ref U), v10, some (.ref F), v12, none] ∧ Fr p c H1 H8 ∧ Stt p c H8 ∧ H8 Tl = some (.lst (ts.map V.int)) ∧ Tl ≠ p ∧ Tl ≠ c ∧ (ts.length = 2 ∨ ts.length = 3) ∧ H8 U = some (.lst (u.map V.int)) ∧ U ≠ p ∧ U ≠ c ∧ U ≠ Nn ∧ U ≠ Bb ∧ u.length ≤ 3 * (3 ^ i - 1) ∧ H8 F = some (.lst (fr.map V.int)) ∧ F ≠ p ∧ F ≠ c ∧ fr ≠ [] ∧ fr.length ≤ 5 ∧ (∀ q ∈ fr, q ∈ l ∧ q ∉ u) ∧ ∀ t ∈ ts, TgtOk e N g t ∧ (0 ≤ t → ∃ b', bels[(t - g - 1).toNat]? = some b' ∧ ∀ z ∈ b', z ∈ u), ?_, ?_⟩
      · refine ⟨_, rfl, _, .inl ⟨_, lst_of hF, rfl⟩, ?_⟩
        cases hfl : l.filter fun x => !decide (x ∈ u) with
        | nil =>
          refine iteT ⟨_, rfl, Tl, rfl, ⟨_, lst_of hT5⟩, fun D nD => ?_⟩
          obtain ⟨d1, d2⟩ := s5.ne nD
          refine lc_list (K := K) (a := Tl) (xs := ts.map V.int) (fun j H6 => Fr p c H5 H6 ∧ Stt p c H6 ∧ ∃ ts2 : List Int, H6 D = some (.lst (ts2.map V.int)) ∧ ts2.length = j ∧ ∀ t ∈ ts2, TgtOk e N g t ∧ t < 0) ⟨(same_upd nD).fr, s5.upd nD, [], upd_same, rfl, fun _ h => (nomatch h)⟩ (fun j H6 _ h => lst_of (h.1.2 _ _ tl1 tl2 hT5)) (fun j y H6 hj h => ?_) (fun H6 h => ?_)
          · obtain ⟨f6, s6, ts2, hD, ht2, htt⟩ := h
            have hjl := (List.getElem?_eq_some_iff.mp hj).1
            rw [List.length_map] at hjl
            refine ⟨rfl, tyes ⟨_, rfl, _, rfl, _, rfl, p, c, e, rfl, s6, by omega, by omega, fun H7 r f7 s7 r0 r1 => ⟨_, _, rfl, rfl, ?_⟩⟩⟩
            refine ⟨_, f7.2 _ _ d1 d2 hD, by rw [List.length_map, sizeLine_eq]; omega, (f6.trans f7).mut nD, s7.mut d1 d2, ts2 ++ [-1 - r], by rw [upd_same, List.map_append]; rfl, by rw [List.length_append, ht2]; rfl, fun y hy => ?_⟩
            rcases List.mem_append.mp hy with hy | hy
            · exact htt y hy
            · rw [List.mem_singleton.mp hy]; exact ⟨⟨by omega, by omega, by omega⟩, by omega⟩
          · obtain ⟨f6, s6, ts2, hD, ht2, htt⟩ := h
            rw [List.length_map] at ht2
            refine ⟨fun σ H7 => ∃ U', σ = [some (.ref p), some (.ref pl), some (.int (most : Int)), some (.int e), some (.int (N : Int)), some (.ref Nn), some (.ref Bb), some (.int (g : Int)), some (.ref D), some (.ref U'), v10, some (.ref F), v12, none] ∧ H6 U' = none ∧ H7 = upd H6 U' (.lst []), ?_, ?_⟩
            · exact ⟨by show 0 ≤ sizeLine; decide, fun U' nU' => ⟨U', rfl, nU', rfl⟩⟩
            rintro σ H7 ⟨U', rfl, nU', rfl⟩
            have f7 := (f5.trans f6).trans (same_upd nU' (o := .lst [])).fr
            have s7 := s6.upd nU' (o := .lst [])
            have hpl7 := (f1.trans f7).2 _ _ pl1 pl2 hpl
            have f56 := f5.trans f6
            refine ⟨_, rfl, pl, _, rfl, .inl (lst_of hpl7), fun F' nF' => ?_⟩
            refine ⟨D, U', F', ts2, [], l, rfl, f7.upd nF', s7.upd nF', (same_upd nF') _ _ ((same_upd nU') _ _ hD), d1, d2, by omega, (same_upd nF') _ _ upd_same, (s6.ne nU').1, (s6.ne nU').2, (ne_of_none (f56.2 _ _ nn1 nn2 hNn) nU').symm, (ne_of_none (f56.2 _ _ bb1 bb2 hBb) nU').symm, Nat.zero_le _, upd_same, (s7.ne nF').1, (s7.ne nF').2, hne, hll, fun q hq => ⟨hq, by simp⟩, fun t ht => ⟨(htt t ht).1, fun h => absurd h (by have := (htt t ht).2; omega)⟩⟩
        | cons y ys =>
          rw [hfl] at hF
          have hlen := List.length_filter_le (fun x => !decide (x ∈ u)) l
          rw [hfl] at hlen
          refine iteF ⟨Tl, U, F, ts, u, y :: ys, rfl, f5, s5, hT5, tl1, tl2, htl, hU5, nU5.1, nU5.2, (ne_of_none hNn3 nU).symm, (ne_of_none hBb3 nU).symm, hul, hF, nF5.1, nF5.2, List.cons_ne_nil _ _, by omega, fun q hq => ?_, fun t ht => ⟨hrt t ht, hut t ht⟩⟩
          rw [← hfl] at hq
          obtain ⟨h1, h2⟩ := List.mem_filter.mp hq
          exact ⟨h1, by simpa using h2⟩
      rintro σ H8 ⟨Tl, U, F, ts, u, fr, rfl, f8, s8, hT8, tl1, tl2, htl, hU8, u1, u2, uN, uB, hul, hF8, fF1, fF2, hfne, hfl, hfr, htt⟩
      -- the question
      refine ⟨fun σ H9 => ∃ qq : Int, σ = [some (.ref p), some (.ref pl), some (.int (most : Int)), some (.int e), some (.int (N : Int)), some (.ref Nn), some (.ref Bb), some (.int (g : Int)), some (.ref Tl), some (.ref U), v10, some (.ref F), some (.int qq), none] ∧ qq ∈ fr ∧ Fr p c H1 H9 ∧ Stt p c H9 ∧ H9 U = some (.lst (u.map V.int)) ∧ H9 Tl = some (.lst (ts.map V.int)), ?_, ?_⟩
      · have hf0 : 0 < fr.length := List.length_pos_iff.mpr hfne
        refine ⟨_, rfl, _, rfl, _, rfl, F, _, rfl, .inl (lst_of hF8), p, c, _, rfl, s8, by rw [List.length_map]; omega, by rw [List.length_map]; omega, fun H9 z f9 s9 z0 z1 => ?_⟩
        rw [List.length_map] at z1
        obtain ⟨y, hy, ay⟩ := at_int (l := fr) z0 z1
        exact ⟨F, _, _, _, rfl, rfl, lst_of (f9.2 _ _ fF1 fF2 hF8), ay, y, rfl, hy, f8.trans f9, s9, f9.2 _ _ u1 u2 hU8, f9.2 _ _ tl1 tl2 hT8⟩
      rintro σ H9 ⟨qq, rfl, hqq, f9, s9, hU9, hT9⟩
      have hNn9 := f9.2 _ _ nn1 nn2 hNn
      have hBb9 := f9.2 _ _ bb1 bb2 hBb
      have hrows9 := hrows.fr f9
      have has : as.length = i := by rw [hrows.1]; exact hrl
      have hbs9 : ∀ (j : Nat) b m, bs[j]? = some b → bels[j]? = some m → H9 b = some (.lst (m.map V.int)) ∧ m.length + 1 ≤ 3 ^ i ∧ b ≠ Nn ∧ b ≠ Bb ∧ b ≠ p ∧ b ≠ c := fun j b m x y => by
        obtain ⟨h1, h2, h3, h4, h5, h6⟩ := hbs j b m x y
        exact ⟨f9.2 _ _ h5 h6 h1, h2, h3, h4, h5, h6⟩
      -- the node
      refine ⟨fun σ H10 => ∃ nd : Addr, σ = [some (.ref p), some (.ref pl), some (.int (most : Int)), some (.int e), some (.int (N : Int)), some (.ref Nn), some (.ref Bb), some (.int (g : Int)), some (.ref Tl), some (.ref U), v10, some (.ref F), some (.int qq), none] ∧ H10 Nn = some (.lst (List.replicate g V.non ++ (nd :: as).map V.ref)) ∧ H10 nd = some (.tup ((qq :: ts).map V.int)) ∧ ∀ b o, b ≠ Nn → H9 b = some o → H10 b = some o, ?_, ?_⟩
      · refine ⟨_, rfl, by show 1 ≤ sizeLine; decide, fun u0 nu0 => ?_⟩
        have e0 := same_upd nu0 (o := .tup [.int qq])
        refine ⟨_, rfl, Tl, _, rfl, .inl ⟨lst_of (e0 _ _ hT9), fun w' nw => ?_⟩⟩
        have e1' := e0.trans (same_upd nw (o := .tup (ts.map V.int)))
        have hu0 := (same_upd nw (o := .tup (ts.map V.int))) _ _ (upd_same (H := H9) (a := u0) (o := .tup [.int qq]))
        refine ⟨u0, w', _, _, rfl, rfl, tup_of hu0, tup_of upd_same, by rw [List.length_map, sizeLine_eq, List.length_singleton]; omega, fun h => (nomatch h), fun _ h => ?_, fun _ _ nd nnd => ?_⟩
        · exfalso
          have := congrArg List.length h
          rw [List.length_map] at this
          simp at this
          subst this
          simp at htl
        have fd := e1'.trans (same_upd nnd (o := .tup ([.int qq] ++ ts.map V.int)))
        have hNn10 := fd _ _ hNn9
        have ndN : nd ≠ Nn := (ne_of_none (e1' _ _ hNn9) nnd).symm
        refine ⟨_, rfl, _, rfl, Nn, _, _, g, rfl, rfl, hNn10, ixN_nat (by rw [List.length_append, List.length_replicate]; omega), nd, rfl, ?_, by rw [upd_ne ndN, upd_same]; rfl, fun b o nb hb => by rw [upd_ne nb]; exact fd _ _ hb⟩
        have := set_mid (List.replicate g V.non) V.non (V.ref nd) (as.map V.ref)
        rw [List.length_replicate] at this
        rw [upd_same, List.replicate_succ', List.append_assoc]
        exact congrArg (fun x => some (HO.lst x)) this
      rintro σ H10 ⟨nd, rfl, hNn10, hnd, k10⟩
      have hBb10 := k10 _ _ nNB.symm hBb9
      have hU10 := k10 _ _ uN hU9
      refine ⟨_, rfl, _, rfl, by show 1 ≤ sizeLine; decide, fun s1' n1 => ?_⟩
      have e1' := same_upd n1 (o := .lst [.int qq])
      refine ⟨U, s1', _, _, rfl, rfl, e1' _ _ hU10, upd_same, by rw [List.length_map, sizeLine_eq]; show _ + 1 ≤ _; omega, fun bn nbn => ?_⟩
      have e2' := e1'.trans (same_upd nbn (o := .lst (u.map V.int ++ [.int qq])))
      have hBb11 := e2' _ _ hBb10
      have bnB : bn ≠ Bb := (ne_of_none (e1' _ _ hBb10) nbn).symm
      have bnN : bn ≠ Nn := (ne_of_none (e1' _ _ hNn10) nbn).symm
      have s10 : Stt p c H10 := let ⟨n, ns, ii, h1, h2⟩ := s9; ⟨n, ns, ii, k10 _ _ nn1.symm h1, k10 _ _ nn2.symm h2⟩
      have s11 := (s10.same e1').ne nbn
      refine ⟨_, rfl, _, rfl, Bb, _, _, g, rfl, rfl, hBb11, ixN_nat (by rw [List.length_append, LB]; omega), ?_⟩
      refine ⟨_, _, _, _, _, _, nd :: as, (qq :: ts) :: rows, bn :: bs, (u ++ [qq]) :: bels, rfl, ?_⟩
      have tupB : ∀ {b : Addr} {zs : List V}, H10 b = some (.tup zs) → b ≠ Bb := fun h => ne_of h hBb10 (by intro z; cases z)
      have tupN : ∀ {b : Addr} {zs : List V}, H9 b = some (.tup zs) → b ≠ Nn := fun h => ne_of h hNn9 (by intro z; cases z)
      have hNi' : N - (i + 1) = g := by omega
      unfold NT
      rw [hNi']
      refine ⟨by rw [upd_ne nNB]; exact e2' _ _ hNn10, ?_, hB0, ⟨by rw [List.length_cons, List.length_cons, hrows.1], fun j b row h1 h2 => ?_⟩, by rw [List.length_cons, hrl], by rw [List.length_cons, hbl], ⟨hgs, ?_⟩, fun j b m h1 h2 => ?_, ?_, ?_⟩
      · have hgB : g < B0.length := by omega
        have tk : B0.take (g + 1) = B0.take g ++ [B0[g]] := take_get (List.getElem?_eq_getElem hgB)
        have lg : (B0.take g).length = g := by rw [List.length_take]; omega
        have := set_mid (B0.take g) B0[g] (V.ref bn) (bs.map V.ref)
        rw [lg] at this
        rw [upd_same, tk, List.append_assoc]
        exact congrArg (fun x => some (HO.lst x)) this
      · cases j with
        | zero =>
          obtain rfl : nd = b := Option.some.inj h1
          obtain rfl : qq :: ts = row := Option.some.inj h2
          rw [upd_ne (tupB hnd)]
          exact e2' _ _ hnd
        | succ j =>
          have := hrows9.2 j b row h1 h2
          have t10 := k10 _ _ (tupN this) this
          rw [upd_ne (tupB t10)]
          exact e2' _ _ t10
      · rw [← hg]
        refine ⟨qq, ts, rfl, htl, (hfr qq hqq).1, List.mem_append.mpr (.inr (List.mem_singleton.mpr rfl)), fun t m => ⟨(htt t m).1, fun t0 => ?_⟩⟩
        obtain ⟨b', h1, h2⟩ := (htt t m).2 t0
        exact ⟨b', h1, fun hz => (hfr qq hqq).2 (h2 _ hz), fun z hz => List.mem_append.mpr (.inl (h2 z hz))⟩
      · cases j with
        | zero =>
          obtain rfl : bn = b := Option.some.inj h1
          obtain rfl : u ++ [qq] = m := Option.some.inj h2
          refine ⟨by rw [upd_ne bnB, upd_same, List.map_append]; rfl, ?_, bnN, bnB, s11.1, s11.2⟩
          rw [List.length_append, List.length_singleton, Nat.pow_succ]
          have : 0 < 3 ^ i := Nat.pow_pos (by decide)
          omega
        | succ j =>
          obtain ⟨b1, b2, b3, b4, b5, b6⟩ := hbs9 j b m h1 h2
          refine ⟨by rw [upd_ne b4]; exact e2' _ _ (k10 _ _ b3 b1), ?_, b3, b4, b5, b6⟩
          rw [Nat.pow_succ]
          omega
      · have f10 : Fr p c H H10 := ⟨fun b o nl h => k10 b o (ne_of_none h nNn) ((f1.trans f9).1 b o nl h), fun b xs n1 n2 h => k10 b _ (ne_of_none h nNn) ((f1.trans f9).2 b xs n1 n2 h)⟩
        have f11 := f10.trans e2'.fr (p := p) (c := c)
        exact f11.mut nBb
      · exact (s10.same e2').mut bb1 bb2
    · rintro σ H4 ⟨v7, v8, v9, v10, v11, v12, as, rows, bs, bels, rfl, hNn, hBb, hB0, hrows, hrl, hbl, hgs, hbs, f1, s1⟩
      rw [Nat.sub_self] at hNn
      refine ⟨_, rfl, k H4 Nn as rows bels nNn f1 s1 hNn hrows ?_ (by omega)⟩
      rw [hrl]
      exact hgs
def spOneWebT : Sp := fun vs H Q _ => ∃ (p c : Addr) (most : Nat), vs = [.ref p, .int (most : Int)] ∧ Stt p c H ∧ most ≤ 12 ∧
  ∀ H' t pl D l as rows bels (e : Int), H D = none → Fr p c H H' → Stt p c H' → H' t = some (.tup [.ref pl, .ref D, .int e]) → H' D = some (.lst (as.map V.ref)) → RowsAt H' as rows → Qn l → GoodS e rows.length l rows bels → rows.length ≤ most → 1 ≤ e → e ≤ 5 → Q (.ref t) H'
theorem ok_l_one_web (T : Txt K mg a) : FnOk P w K mg base CX0 4 a.f_l_one_web a.d_l_one_web P_l_one_web spOneWebT := by
  refine T.F_l_one_web.ok sc_l_one_web (fun vs H Q E h => ?_) (fun cdv A outer s H vs Q E hr h => ?_)
  · obtain ⟨p, c, most, rfl, _⟩ := h
    rfl
  · obtain ⟨p, c, most, rfl, hs, hm, k⟩ := h
    refine ⟨_, (Evl.pss_cut (ps_set (i := 2) sc_l_one_web.nd rfl (Or.inl rfl) (pe_call (ok_l_pool T) (hr.mono (by decide)) (by rfl) T.g_l_pool T.k_l_pool T.b_l_pool .nil pass0 (pa_cons (pv 0) pa_nil)))
  (Evl.pss_cut (ps_set (i := 3) sc_l_one_web.nd rfl (Or.inl rfl) (pe_op op_add pe_int (pe_call (ok_l_draw T) (hr.mono (by decide)) (by rfl) T.g_l_draw T.k_l_draw T.b_l_draw .nil pass0 (pa_cons (pv 0) (pa_cons pe_int pa_nil)))))
  (pss_one (ps_ret (pe_tup (pa_cons (pv 2) (pa_cons (pe_call (ok_l_nodes T) (hr.mono (by decide)) (by rfl) T.g_l_nodes T.k_l_nodes T.b_l_nodes .nil pass0 (pa_cons (pv 0) (pa_cons (pv 2) (pa_cons (pv 1) (pa_cons (pv 3) pa_nil))))) (pa_cons (pv 3) pa_nil)))))))), ?_⟩
    refine ⟨fun σ H1 => ∃ pl, ∃ l : List Int, σ = [some (.ref p), some (.int (most : Int)), some (.ref pl), none] ∧ Fr p c H H1 ∧ Stt p c H1 ∧ H1 pl = some (.lst (l.map V.int)) ∧ pl ≠ p ∧ pl ≠ c ∧ Qn l ∧ l ≠ [] ∧ l.length ≤ 5, ?_, ?_⟩
    · exact ⟨_, rfl, p, c, rfl, hs, fun H1 D l nD f1 s1 hD hq hne hl => ⟨D, l, rfl, f1, s1, hD, (hs.ne nD).1, (hs.ne nD).2, hq, hne, hl⟩⟩
    rintro σ H1 ⟨pl, l, rfl, f1, s1, hpl, n1, n2, hq, hne, hl⟩
    refine ⟨fun σ H2 => ∃ e : Int, 1 ≤ e ∧ e ≤ 5 ∧ σ = [some (.ref p), some (.int (most : Int)), some (.ref pl), some (.int e)] ∧ Fr p c H H2 ∧ Stt p c H2 ∧ H2 pl = some (.lst (l.map V.int)), ?_, ?_⟩
    · exact ⟨_, rfl, p, c, 5, rfl, s1, by decide, by decide, fun H2 r f2 s2 r0 r1 => ⟨_, _, rfl, rfl, 1 + r, by omega, by omega, rfl, f1.trans f2, s2, f2.2 _ _ n1 n2 hpl⟩⟩
    rintro σ H2 ⟨e, e1, e5, rfl, f2, s2, hpl⟩
    refine ⟨_, rfl, _, rfl, _, rfl, _, rfl, _, rfl, p, c, pl, l, most, e, rfl, s2, hpl, n1, n2, hq, hne, hl, hm, e1, by omega, fun H3 D as rows bels nD f3 s3 hD hrows hS hlen => ?_⟩
    refine ⟨_, rfl, by show 3 ≤ sizeLine; decide, fun t nt => ?_⟩
    have f4 := (f2.trans f3).upd nt (o := .tup [.ref pl, .ref D, .int e])
    exact k _ t pl D l as rows bels e (f2.free s2 nD) f4 (s3.upd nt) upd_same ((same_upd nt) _ _ hD) (hrows.same (same_upd nt)) hq hS hlen e1 e5
end
end K27

namespace K27
open PySem PySem.Spec PyProof.Rows L2
section
variable {P : Program} {w : World} {K : PySem.W.Frag} {mg : Str → Option Value} {base : Heap} {a : Ad}
/-- (wrong, right) of a node -/
def prOf (rows : List (List Int)) (k : Int) : List Int := match rows[k.toNat]? with
  | some (_ :: a :: b :: _) => [b, a]
  | _ => []
def prsOf (rows : List (List Int)) (l : List Int) : List (List Int) := l.map (prOf rows)
def spSplits (C : Addr) : Sp := fun vs H Q _ => ∃ (x : Addr) (rows : List (List Int)) (e o : Int), vs = [.ref x] ∧ WebAt C H x rows e o ∧ GoodW rows e o ∧ rows.length ≤ 40 ∧
  ∀ (H' : Hp) (t : Addr) (ps : List Addr) (l : List Int), Same H H' → H' t = some (.tup (ps.map V.ref)) → RowsAt H' ps (prsOf rows (norm l)) → IsReached rows o l → Q (.ref t) H'
theorem norm_len (l : List Int) : (norm l).length ≤ 48 := by
  unfold norm
  have := List.length_filter_le (fun k => decide (k ∈ l)) ask48
  have l48 : ask48.length = 48 := by unfold ask48; rw [List.length_map, List.length_range]
  omega
theorem ok_splits (T : Txt K mg a) : FnOk P w K mg base CX0 6 a.f_splits a.d_splits P_splits (spSplits a.c_Web) := by
  refine T.F_splits.ok sc_splits (fun vs H Q E h => ?_) (fun cdv A outer s H vs Q E hr h => ?_)
  · obtain ⟨x, rows, e, o, rfl, _⟩ := h
    rfl
  · obtain ⟨x, rows, e, o, rfl, hw, G, hn, k⟩ := h
    refine ⟨_, (pss_one (ps_ret (pe_callTy call_tuple_of (by rfl) T.z_tuple (by decide +kernel) (pa_cons (pe_lc (own := [("k", 1)]) (g := gName 1) (tt := tYes) (te := (tTup (tCons (tOp (rIxT K) (tOp (rOwnIx a.c_Web (spItem a.c_Web a.c_NoNode) E0) (tVar 0) (tVar 1)) (tC (.int 2))) (tCons (tOp (rIxT K) (tOp (rOwnIx a.c_Web (spItem a.c_Web a.c_NoNode) E0) (tVar 0) (tVar 1)) (tC (.int 1))) tNil)))) rfl sc_splits.nd (pi_tup (pe_meth0 (pv 0) T.cl_Web T.m_Web_reached (ok_Web_reached T) (hr.mono (by decide)) T.b_Web_reached .nil pass0)) (blkOk_by (N := N_splits) (sc := defScope s_splits) (by decide +kernel)) (fun _ _ _ _ _ => pg_name (i := 1) sc_splits.nd rfl (Or.inl rfl)) (fun _ _ _ _ _ => pts_nil) (fun _ _ _ _ _ => by exact (pe_tup (pa_cons (pe_ix ix_tup (pe_ownIx (ok_Web_getitem T) (hr.mono (by decide)) T.s_Web_getitem T.fn_Web_getitem T.i_Web_getitem T.b_Web_getitem passL (pv 0) (pv 1)) pe_int (by intro _ _; rfl)) (pa_cons (pe_ix ix_tup (pe_ownIx (ok_Web_getitem T) (hr.mono (by decide)) T.s_Web_getitem T.fn_Web_getitem T.i_Web_getitem T.b_Web_getitem passL (pv 0) (pv 1)) pe_int (by intro _ _; rfl)) pa_nil))))) pa_nil)))), ?_⟩
    obtain ⟨dx, nt, as, hx, hnt, hrows⟩ := id hw
    refine ⟨_, rfl, x, dx, _, rfl, hx, rfl, x, rows, e, o, rfl, hw, G, hn, fun H1 t l f1 ht hA => ?_⟩
    have nl := norm_len l
    refine ⟨t, rfl, ⟨_, tup_of ht⟩, fun C nC => ?_⟩
    refine lc_tup (K := K) (a := t) (xs := (norm l).map V.int) (fun i H2 => Same H1 H2 ∧ ∃ ps : List Addr, H2 C = some (.lst (ps.map V.ref)) ∧ RowsAt H2 ps (prsOf rows ((norm l).take i))) ⟨same_upd nC, [], upd_same, ⟨rfl, fun j _ _ h => by simp at h⟩⟩ (fun i H2 _ h => tup_of (h.1 _ _ ht)) (fun i y H2 hi h => ?_) (fun H2 h => ?_)
    · obtain ⟨f2, ps, hC, hps⟩ := h
      obtain ⟨p, hp, rfl⟩ := get_map_int hi
      have hil : i < (norm l).length := (List.getElem?_eq_some_iff.mp hp).1
      have hpm := mem_norm.mp (List.mem_of_getElem? hp)
      obtain ⟨p0, hl⟩ := (hA p).mp hpm.2
      have hb := hl.bounds G G.o1 G.o2
      have f12 := f1.trans f2
      have hw2 := hw.same f12
      have Bp : Bd p := Bd.small (by omega) (by omega)
      obtain ⟨n, rfl⟩ : ∃ n : Nat, p = (n : Int) := ⟨p.toNat, by omega⟩
      obtain ⟨an, row, han, hrn, hrw⟩ := rows_get (hrows.same f12) (show n < rows.length by omega)
      obtain ⟨q, a', b', r, rfl, _⟩ := G.two hrn
      have hrn' : rows[((n : Int)).toNat]? = some (q :: a' :: b' :: r) := by rw [Int.toNat_natCast]; exact hrn
      have epr : prOf rows (n : Int) = [b', a'] := by unfold prOf; rw [hrn']
      have ixw : ∀ (H3 : Hp) (Q : VK), H3 = H2 → (∀ u, H2 u = some (.tup ((q :: a' :: b' :: r).map V.int)) → Q (.ref u) H2) → rOwnIx a.c_Web (spItem a.c_Web a.c_NoNode) E0 (.ref x) (.int (n : Int)) H3 Q := fun H3 Q e3 hQ => by
        subst e3
        refine ⟨x, dx, _, rfl, f12 _ _ hx, x, rows, e, o, (n : Int), rfl, hw2, Bp, fun _ u row h1 h2 => ?_, fun h => absurd ⟨p0, hb.2⟩ h⟩
        rw [hrn'] at h1
        obtain rfl := Option.some.inj h1
        exact hQ u h2
      refine ⟨rfl, tyes ⟨_, rfl, _, rfl, ixw _ _ rfl fun u hu => ⟨u, _, 2, .int b', rfl, rfl, tup_of hu, at_tup (j := 2) rfl, ?_⟩⟩⟩
      refine ⟨_, rfl, _, rfl, ixw _ _ rfl fun u hu => ⟨u, _, 1, .int a', rfl, rfl, tup_of hu, at_tup (j := 1) rfl, by show 2 ≤ sizeLine; decide, fun v nv => ?_⟩⟩
      have e3 := same_upd nv (o := .tup [.int b', .int a'])
      have pl : ps.length = i := by rw [hps.1]; unfold prsOf; rw [List.length_map, List.length_take]; omega
      refine ⟨_, e3 _ _ hC, by rw [List.length_map, sizeLine_eq]; omega, (f2.trans e3).mut nC, ps ++ [v], by rw [upd_same, List.map_append]; rfl, ?_⟩
      have em : prsOf rows ((norm l).take (i + 1)) = prsOf rows ((norm l).take i) ++ [[b', a']] := by
        unfold prsOf
        rw [take_get hp, List.map_append, List.map_cons, epr]
        rfl
      rw [em]
      exact rows_app (e3 _ _ hC) (hps.same e3) upd_same
    · obtain ⟨f2, ps, hC, hps⟩ := h
      rw [List.length_map, List.take_length] at hps
      refine ⟨C, _, rfl, .inl ⟨lst_of hC, fun u nu => ?_⟩⟩
      have e3 := same_upd nu (o := .tup (ps.map V.ref))
      exact k _ u ps l ((f1.trans f2).trans e3) upd_same (hps.same e3) hA
/-! harmless -/
def hrow (ms : List Int) (e : Nat) : Nat → List (List Int)
  | 0 => []
  | j + 1 => hrow ms e j ++ if ms.getD e 0 ≤ ms.getD j 0 then [[(e : Int), (j : Int)]] else []
def hp (ms : List Int) : Nat → List (List Int)
  | 0 => []
  | i + 1 => hp ms i ++ hrow ms i ms.length
theorem hrow_len (ms : List Int) (e : Nat) : ∀ j, (hrow ms e j).length ≤ j
  | 0 => Nat.le_refl _
  | j + 1 => by
    have := hrow_len ms e j
    unfold hrow
    rw [List.length_append]
    split
    · rw [List.length_singleton]; omega
    · rw [List.length_nil]; omega
theorem hp_len (ms : List Int) : ∀ i, (hp ms i).length ≤ i * ms.length
  | 0 => by unfold hp; rw [Nat.zero_mul]; exact Nat.le_refl _
  | i + 1 => by
    have h1 := hp_len ms i
    have h2 := hrow_len ms i ms.length
    unfold hp
    rw [List.length_append, Nat.add_mul, Nat.one_mul]
    omega
theorem getD_at {ms : List Int} {j : Nat} (h : j < ms.length) : (ms.map V.int)[j]? = some (.int (ms.getD j 0)) := by
  rw [List.getElem?_map, List.getElem?_eq_getElem h, List.getD_eq_getElem?_getD, List.getElem?_eq_getElem h]
  rfl
def spHarmless : Sp := fun vs H Q _ => ∃ (m : Addr) (ms : List Int), vs = [.ref m] ∧ H m = some (.lst (ms.map V.int)) ∧ ms.length ≤ 60 ∧
  ∀ (H' : Hp) (t : Addr) (ps : List Addr), Same H H' → H' t = some (.tup (ps.map V.ref)) → RowsAt H' ps (hp ms ms.length) → Q (.ref t) H'
theorem ok_harmless (T : Txt K mg a) : FnOk P w K mg base CX0 1 a.f_harmless a.d_harmless P_harmless spHarmless := by
  refine T.F_harmless.ok sc_harmless (fun vs H Q E h => ?_) (fun cdv A outer s H vs Q E hr h => ?_)
  · obtain ⟨m, ms, rfl, _⟩ := h
    rfl
  · obtain ⟨m, ms, rfl, hm, hn, k⟩ := h
    refine ⟨_, (Evl.pss_cut (ps_set (i := 1) sc_harmless.nd rfl (Or.inr rfl) (pe_callTy cr_range1 (by rfl) T.z_range (by decide +kernel) (pa_cons (pe_callB call_len_seq (by rfl) T.z_len (by decide +kernel) (pa_cons (pv 0) pa_nil)) pa_nil)))
  (pss_one (ps_ret (pe_callTy call_tuple_of (by rfl) T.z_tuple (by decide +kernel) (pa_cons (pe_lc2 (own := [("e", 2), ("f", 3)]) (vs1 := [3]) (g := gName 2) (g1 := gName 3) (wi1 := (iRngO (tVar 1))) (tt := tYes) (tt1 := (tTest (tOp (rI0 fun i j => .bl (decide (i ≤ j))) (tOp (rIxL K) (tVar 0) (tVar 2)) (tOp (rIxL K) (tVar 0) (tVar 3))))) (te := (tTup (tCons (tVar 2) (tCons (tVar 3) tNil)))) rfl sc_harmless.nd (pi_rngO (pv 1)) (blkOk_by (N := N_harmless) (sc := defScope s_harmless) (by decide +kernel)) (by simp) (fun _ _ _ _ _ => pg_name (i := 2) sc_harmless.nd rfl (Or.inl rfl)) (fun _ _ _ _ _ => pts_nil) (fun _ _ _ _ _ => by exact (pi_rngO (pv 1))) (fun _ _ _ _ _ => pg_name (i := 3) sc_harmless.nd rfl (Or.inl rfl)) (fun _ _ _ _ _ => by exact (pts_one (pt_cmpR op_le (pe_ix ix_list (pv 0) (pv 2) (by intro _ _; rfl)) (pe_ix ix_list (pv 0) (pv 3) (by intro _ _; rfl)) (nomark _)))) (fun _ _ _ _ _ => by exact (pe_tup (pa_cons (pv 2) (pa_cons (pv 3) pa_nil))))) pa_nil))))), ?_⟩
    refine ⟨fun σ H1 => ∃ r, σ = [some (.ref m), some (.ref r), none, none] ∧ H1 r = some (.rng 0 (ms.length : Nat)) ∧ Same H H1, ?_, ?_⟩
    · refine ⟨_, rfl, m, _, rfl, .inl (lst_of hm), _, rfl, fun p np => ⟨p, rfl, ?_, same_upd np⟩⟩
      rw [List.length_map]
      exact upd_same
    rintro σ H1 ⟨r, rfl, hr1, f1⟩
    have hm1 := f1 _ _ hm
    refine ⟨_, rfl, r, 0, _, rfl, hr1, by omega, by omega, by omega, by omega, fun D nD => ?_⟩
    have eN : (((ms.length : Nat) : Int) - 0).toNat = ms.length := by omega
    rw [eN]
    have hl := hp_len ms
    have hml : ∀ i, i ≤ ms.length → i * ms.length ≤ 3600 := fun i hi => Nat.le_trans (Nat.mul_le_mul (Nat.le_trans hi hn) hn) (by decide)
    refine ⟨fun i k H2 => i + k = ms.length ∧ Same H1 H2 ∧ ∃ ps : List Addr, H2 D = some (.lst (ps.map V.ref)) ∧ RowsAt H2 ps (hp ms i), ⟨ms.length, by omega, same_upd nD, [], upd_same, ⟨rfl, fun j _ _ h => by simp at h⟩⟩, fun i kk H2 ⟨hik, f2, ps, hD, hps⟩ => ?_⟩
    by_cases hi : i < ms.length
    · refine .inr ⟨hi, fun H2 => Same H1 H2 ∧ ∃ ps : List Addr, H2 D = some (.lst (ps.map V.ref)) ∧ RowsAt H2 ps (hp ms (i + 1)), fun H' ⟨g1, ps', g2, g3⟩ => ⟨kk - 1, by omega, by omega, g1, ps', g2, g3⟩, ?_⟩
      rintro y H' ⟨rfl, rfl⟩
      rw [show (0 : Int) + ((i : Nat) : Int) = (i : Int) by omega]
      refine ⟨rfl, tyes ⟨_, rfl, r, 0, _, rfl, f2 _ _ hr1, by omega, by omega, by omega, by omega, ?_⟩⟩
      rw [eN]
      refine ⟨fun j k H3 => j + k = ms.length ∧ Same H1 H3 ∧ ∃ ps : List Addr, H3 D = some (.lst (ps.map V.ref)) ∧ RowsAt H3 ps (hp ms i ++ hrow ms i j), ⟨ms.length, by omega, f2, ps, hD, by unfold hrow; rw [List.append_nil]; exact hps⟩, fun j kj H3 ⟨hjk, f3, ps3, hD3, hps3⟩ => ?_⟩
      by_cases hj : j < ms.length
      · refine .inr ⟨hj, fun H3 => Same H1 H3 ∧ ∃ ps : List Addr, H3 D = some (.lst (ps.map V.ref)) ∧ RowsAt H3 ps (hp ms i ++ hrow ms i (j + 1)), fun H' ⟨g1, ps', g2, g3⟩ => ⟨kj - 1, by omega, by omega, g1, ps', g2, g3⟩, ?_⟩
        rintro y H' ⟨rfl, rfl⟩
        rw [show (0 : Int) + ((j : Nat) : Int) = (j : Int) by omega]
        have hm3 := f3 _ _ hm1
        refine ⟨rfl, _, rfl, _, rfl, m, _, (i : Int), _, rfl, rfl, lst_of hm3, atI_nat (getD_at hi), _, rfl, _, rfl, m, _, (j : Int), _, rfl, rfl, lst_of hm3, atI_nat (getD_at hj), _, _, rfl, rfl, _, rfl, ite2 (fun hle => ?_) (fun hle => ?_)⟩
        · have hle : ms.getD i 0 ≤ ms.getD j 0 := of_decide_eq_true hle
          refine ⟨_, rfl, _, rfl, by show 2 ≤ sizeLine; decide, fun t nt => ?_⟩
          have e4 := same_upd nt (o := .tup [.int (i : Int), .int (j : Int)])
          have hp1 := hp_len ms i
          have hp2 := hrow_len ms i j
          have hp3 := hml i (by omega)
          refine ⟨_, e4 _ _ hD3, ?_, (f3.trans e4).mut nD, ps3 ++ [t], by rw [upd_same, List.map_append]; rfl, ?_⟩
          · rw [List.length_map, sizeLine_eq, hps3.1, List.length_append]
            omega
          · unfold hrow
            rw [if_pos hle, ← List.append_assoc]
            exact rows_app (e4 _ _ hD3) (hps3.same e4) upd_same
        · have hle : ¬ ms.getD i 0 ≤ ms.getD j 0 := fun z => hle (decide_eq_true z)
          refine ⟨f3, ps3, hD3, ?_⟩
          unfold hrow
          rw [if_neg hle, List.append_nil]
          exact hps3
      · obtain rfl : j = ms.length := by omega
        exact .inl ⟨Nat.le_refl _, f3, ps3, hD3, by unfold hp; exact hps3⟩
    · obtain rfl : i = ms.length := by omega
      refine .inl ⟨Nat.le_refl _, D, _, rfl, .inl ⟨lst_of hD, fun t nt => ?_⟩⟩
      have e3 := same_upd nt (o := .tup (ps.map V.ref))
      exact k _ t ps ((f1.trans f2).trans e3) upd_same (hps.same e3)
end
end K27

namespace K27
open PySem PySem.Spec PyProof.Rows L2
section
variable {P : Program} {w : World} {K : PySem.W.Frag} {mg : Str → Option Value} {base : Heap} {a : Ad}
def spStartT : Sp := fun vs H Q _ => ∃ (q : Addr) (xs : List V), vs = [.ref q] ∧ H q = some (.lst xs) ∧ Q (.int (if xs.isEmpty then -1 else 0)) H
theorem ok_l_start (T : Txt K mg a) : FnOk P w K mg base CX0 1 a.f_l_start a.d_l_start P_l_start spStartT := by
  refine T.F_l_start.ok sc_l_start (fun vs H Q E h => ?_) (fun cdv A outer s H vs Q E hr h => ?_)
  · obtain ⟨q, xs, rfl, _⟩ := h
    rfl
  · obtain ⟨q, xs, rfl, hq, k⟩ := h
    refine ⟨_, (pss_cons (ps_if (pt_truth (pv 0) (by intro _; rfl))
    (pss_one (ps_ret pe_int))
    pss_nil)
  (pss_one (ps_ret (pe_un un_neg pe_int)))), ?_⟩
    refine ⟨_, rfl, _, .inl ⟨_, lst_of hq, rfl⟩, ?_⟩
    cases xs with
    | nil => exact iteF ⟨_, rfl, k⟩
    | cons y ys => exact iteT k
def spMarksT : Sp := fun vs H Q _ => ∃ (p c : Addr) (e : Int), vs = [.ref p, .int e] ∧ Stt p c H ∧ 0 ≤ e ∧ e ≤ 60 ∧
  ∀ H' D (ms : List Int), H D = none → Fr p c H H' → Stt p c H' → H' D = some (.lst (ms.map V.int)) → ms.length = e.toNat → Q (.ref D) H'
theorem ok_l_marks (T : Txt K mg a) : FnOk P w K mg base CX0 2 a.f_l_marks a.d_l_marks P_l_marks spMarksT := by
  refine T.F_l_marks.ok sc_l_marks (fun vs H Q E h => ?_) (fun cdv A outer s H vs Q E hr h => ?_)
  · obtain ⟨p, c, e, rfl, _⟩ := h
    rfl
  · obtain ⟨p, c, e, rfl, hs, e0, e1, k⟩ := h
    refine ⟨_, (Evl.pss_cut (ps_set (i := 2) sc_l_marks.nd rfl (Or.inr rfl) (pe_ix ix_tup (pe_tup (pa_cons pe_int (pa_cons pe_int (pa_cons (pe_op op_pow pe_int pe_int) pa_nil)))) (pe_call (ok_l_draw T) (hr.mono (by decide)) (by rfl) T.g_l_draw T.k_l_draw T.b_l_draw .nil pass0 (pa_cons (pv 0) (pa_cons pe_int pa_nil))) (by intro _ _; rfl)))
  (pss_one (ps_ret (pe_lc (own := [("_law_k", 3)]) (g := gName 3) (tt := tYes) (te := (tOp (rI0 fun i j => .int (i - j)) (tCall (spDr K) [] E0 (tCons (tVar 0) (tCons (tVar 2) tNil))) (tOp (rI CMul fun i j => .int (i * j)) (tCall (spDr K) [] E0 (tCons (tVar 0) (tCons (tC (.int 2)) tNil))) (tOp (rI CDivW fun i j => .int (i / j)) (tVar 2) (tC (.int 2)))))) rfl sc_l_marks.nd (pi_range1 (by rfl) T.z_range (pa_cons (pv 1) pa_nil)) (blkOk_by (N := N_l_marks) (sc := defScope s_l_marks) (by decide +kernel)) (fun _ _ _ _ _ => pg_name (i := 3) sc_l_marks.nd rfl (Or.inl rfl)) (fun _ _ _ _ _ => pts_nil) (fun _ _ _ _ _ => by exact (pe_op op_sub (pe_call (ok_l_draw T) (hr.mono (by decide)) (by rfl) T.g_l_draw T.k_l_draw T.b_l_draw .nil pass0 (pa_cons (pv 0) (pa_cons (pv 2) pa_nil))) (pe_op op_mul (pe_call (ok_l_draw T) (hr.mono (by decide)) (by rfl) T.g_l_draw T.k_l_draw T.b_l_draw .nil pass0 (pa_cons (pv 0) (pa_cons pe_int pa_nil))) (pe_op op_fdivW (pv 2) pe_int)))))))), ?_⟩
    refine ⟨fun σ H1 => ∃ lim : Int, 0 < lim ∧ lim ≤ 10 ^ 19 ∧ σ = [some (.ref p), some (.int e), some (.int lim), none] ∧ Fr p c H H1 ∧ Stt p c H1, ?_, ?_⟩
    · refine ⟨_, 19, rfl, rfl, ⟨by decide, by decide, by decide⟩, by show 3 ≤ sizeLine; decide, fun t nt => ?_⟩
      refine ⟨_, rfl, p, c, 3, rfl, hs.upd nt, by decide, by decide, fun H2 r f3 s3 r0 r1 => ?_⟩
      have f2 := (same_upd nt (o := .tup [.int 3, .int 10, .int (10 ^ 19)])).fr (p := p) (c := c)
      have ht := f3.tup (upd_same (H := H) (a := t) (o := .tup [.int 3, .int 10, .int (10 ^ 19)]))
      have hr : r = 0 ∨ r = 1 ∨ r = 2 := by omega
      rcases hr with rfl | rfl | rfl
      · exact ⟨t, _, 0, .int 3, rfl, rfl, tup_of ht, rfl, 3, by decide, by decide, rfl, f2.trans f3, s3⟩
      · exact ⟨t, _, 1, .int 10, rfl, rfl, tup_of ht, rfl, 10, by decide, by decide, rfl, f2.trans f3, s3⟩
      · exact ⟨t, _, 2, .int (10 ^ 19), rfl, rfl, tup_of ht, rfl, 10 ^ 19, by decide, by decide, rfl, f2.trans f3, s3⟩
    rintro σ H1 ⟨lim, l0, l1, rfl, f1, s1⟩
    have l2 : (10 : Int) ^ 19 = 10000000000000000000 := by decide
    rw [l2] at l1
    have l3 : lim < 2 ^ 200 := Int.lt_of_le_of_lt l1 (by decide)
    refine ⟨_, rfl, _, rfl, by omega, by omega, fun D nD => ?_⟩
    obtain ⟨d1, d2⟩ := s1.ne nD
    have hw : CDivW lim 2 := ⟨by decide, by decide⟩
    refine lc_range (lo := 0) (n := e.toNat) (fun j H2 => Fr p c H1 H2 ∧ Stt p c H2 ∧ ∃ ms : List Int, H2 D = some (.lst (ms.map V.int)) ∧ ms.length = j) ⟨(same_upd nD).fr, s1.upd nD, [], upd_same, rfl⟩ (fun j H2 hj h => ?_) (fun H2 h => ?_)
    · obtain ⟨f2, s2, ms, hD, hl⟩ := h
      refine ⟨rfl, tyes ⟨_, rfl, _, rfl, p, c, lim, rfl, s2, l0, l3, fun H3 r1 f3 s3 r10 r11 => ?_⟩⟩
      refine ⟨_, rfl, p, c, 2, rfl, s3, by decide, by decide, fun H4 r2 f4 s4 r20 r21 => ?_⟩
      refine ⟨_, rfl, _, 2, rfl, rfl, hw, _, _, rfl, rfl, .inl ⟨by omega, by omega⟩, _, _, rfl, rfl, ?_⟩
      exact ⟨_, (f3.trans f4).2 _ _ d1 d2 hD, by rw [List.length_map, sizeLine_eq]; omega, (f2.trans (f3.trans f4)).mut nD, s4.mut d1 d2, ms ++ [_], by rw [upd_same, List.map_append]; rfl, by rw [List.length_append, hl]; rfl⟩
    · obtain ⟨f2, s2, ms, hD, hl⟩ := h
      exact k H2 D ms (f1.free s1 nD) (f1.trans f2) s2 hD hl
def spReachedL : Sp := fun vs H Q _ => ∃ (q : Addr) (as : List Addr) (rows : List (List Int)) (e o z : Int), vs = [.ref q, .int z] ∧ H q = some (.lst (as.map V.ref)) ∧ RowsAt H as rows ∧ GoodW rows e o ∧ rows.length ≤ 40 ∧ -e ≤ z ∧ z < rows.length ∧
  ∀ (H' : Hp) (D : Addr) (l : List Int), Same H H' → H' D = some (.lst ((norm l).map V.int)) → IsReached rows z l → Q (.ref D) H'
/-- before each turn of _law_reached -/
structure Br (rows : List (List Int)) (z : Int) (i : Nat) (fs ts : List Int) : Prop where
  nd : fs.Nodup
  f0 : ∀ j ∈ fs, 0 ≤ j ∧ Led rows z j
  t0 : ∀ j ∈ ts, Led rows z j
  zin : z < 0 ∨ z ∈ fs ∨ z ∈ ts
  cl : ∀ j ∈ fs, ∀ q a b r, rows[j.toNat]? = some (q :: a :: b :: r) → (a < 0 ∨ a ∈ fs ∨ a ∈ ts) ∧ (b < 0 ∨ b ∈ fs ∨ b ∈ ts)
  cnt : i + ts.length = 1 + 2 * fs.length
theorem Br.reached {rows : List (List Int)} {z : Int} {i : Nat} {fs : List Int} (h : Br rows z i fs []) : IsReached rows z fs := fun k => by
  constructor
  · exact fun hk => h.f0 k hk
  · rintro ⟨k0, hk⟩
    have := hk.sub (S := fun j => j < 0 ∨ j ∈ fs) (h.zin.elim .inl fun x => x.elim .inr fun y => (nomatch y)) fun j q a b r hj j0 hr => by
      have hj : j ∈ fs := hj.elim (fun x => absurd j0 (by omega)) id
      obtain ⟨x, y⟩ := h.cl j hj q a b r hr
      exact ⟨x.elim .inl fun x => x.elim .inr fun y => (nomatch y), y.elim .inl fun x => x.elim .inr fun y => (nomatch y)⟩
    exact this.elim (fun x => absurd k0 (by omega)) id
theorem Br.len {rows : List (List Int)} {e o z : Int} {i : Nat} {fs ts : List Int} (h : Br rows z i fs ts) (G : GoodW rows e o) (hz : -e ≤ z ∧ z < rows.length) : fs.length ≤ rows.length := by
  have := nodup_le fs (posL 0 rows.length) h.nd fun j hj => by
    obtain ⟨j0, hl⟩ := h.f0 j hj
    have := (hl.bounds G hz.1 hz.2).2
    exact mem_pos (by omega) this
  rw [pos_len] at this
  omega
theorem ok_l_reached (T : Txt K mg a) : FnOk P w K mg base CX0 1 a.f_l_reached a.d_l_reached P_l_reached spReachedL := by
  refine T.F_l_reached.ok sc_l_reached (fun vs H Q E h => ?_) (fun cdv A outer s H vs Q E hr h => ?_)
  · obtain ⟨q, as, rows, e, o, z, rfl, _⟩ := h
    rfl
  · obtain ⟨q, as, rows, e, o, z, rfl, hq, hrows, G, hn, z1, z2, k⟩ := h
    refine ⟨_, (Evl.pss_cut (ps_set (i := 2) sc_l_reached.nd rfl (Or.inl rfl) (pe_lst pa_nil))
  (Evl.pss_cut (ps_set (i := 3) sc_l_reached.nd rfl (Or.inl rfl) (pe_lst (pa_cons (pv 1) pa_nil)))
  (Evl.pss_cut (ps_for PassesOwn.never rfl (pi_range1 (by rfl) T.z_range (pa_cons (pe_op op_add (pe_op op_mul pe_int (pe_callB call_len_seq (by rfl) T.z_len (by decide +kernel) (pa_cons (pv 0) pa_nil))) pe_int) pa_nil)) (pg_name (i := 4) sc_l_reached.nd rfl (Or.inl rfl))
    (Evl.pss_cut (ps_if (pt_not (pt_truth (pv 3) (by intro _; rfl)))
    (pss_one ps_break)
    pss_nil)
  (Evl.pss_cut (ps_set (i := 5) sc_l_reached.nd rfl (Or.inl rfl) (pe_bm0 PySem.F.plainAttrs_list PySem.F.slot_list_pop PySem.F.type_list_pop mt_pop (pv 3)))
  (pss_one (ps_if (PW.pt (pw_and (pt_cmpR op_ge (pv 5) pe_int (nomark _)) (pw_and1 (pt_cmpR op_notIn_seq (pv 5) (pv 2) (by with_unfolding_all rfl)))))
    (pss_cons (ps_expr (pe_bm PySem.F.plainAttrs_list PySem.F.slot_list_append PySem.F.type_list_append mt_append (pv 2) (pa_cons (pv 5) pa_nil)))
  (pss_one (ps_set (i := 3) sc_l_reached.nd rfl (Or.inl rfl) (pe_op op_cat (pv 3) (pe_lst (pa_cons (pe_ix ix_tup (pe_ix ix_list (pv 0) (pv 5) (by intro _ _; rfl)) pe_int (by intro _ _; rfl)) (pa_cons (pe_ix ix_tup (pe_ix ix_list (pv 0) (pv 5) (by intro _ _; rfl)) pe_int (by intro _ _; rfl)) pa_nil)))))))
    pss_nil)))))
  (pss_one (ps_ret (pe_callB cr_sorted (by rfl) T.z_sorted (by decide +kernel) (pa_cons (pe_lc (own := [("_law_at", 5)]) (g := gName 5) (tt := tYes) (te := (tCB (fun xs H Q => (∃ i, xs = [.int i] ∧ Q (.int i) H) ∨ ∃ k, xs = [.bl k] ∧ Q (.int (if k then 1 else 0)) H) (tCons (tVar 5) tNil))) rfl sc_l_reached.nd (pi_list (pv 2)) (blkOk_by (N := N_l_reached) (sc := defScope s_l_reached) (by decide +kernel)) (fun _ _ _ _ _ => pg_name (i := 5) sc_l_reached.nd rfl (Or.inl rfl)) (fun _ _ _ _ _ => pts_nil) (fun _ _ _ _ _ => by exact (pe_callTy call_int1 (by rfl) T.z_int (by decide +kernel) (pa_cons (pv 5) pa_nil)))) pa_nil))))))), ?_⟩
    have asl : as.length = rows.length := hrows.1
    refine ⟨fun σ H1 => ∃ F, σ = [some (.ref q), some (.int z), some (.ref F), none, none, none] ∧ H F = none ∧ Same H H1 ∧ H1 F = some (.lst []), ?_, ?_⟩
    · exact ⟨by show 0 ≤ sizeLine; decide, fun F nF => ⟨F, rfl, nF, same_upd nF, upd_same⟩⟩
    rintro σ H1 ⟨F, rfl, nF, f1, hF1⟩
    refine ⟨fun σ H2 => ∃ W, σ = [some (.ref q), some (.int z), some (.ref F), some (.ref W), none, none] ∧ Same H H2 ∧ H2 F = some (.lst []) ∧ H W = none ∧ W ≠ F ∧ H2 W = some (.lst ([z].map V.int)), ?_, ?_⟩
    · exact ⟨_, rfl, by show 1 ≤ sizeLine; decide, fun W nW => ⟨W, rfl, f1.trans (same_upd nW), (same_upd nW) _ _ hF1, f1.free nW, (ne_of_none hF1 nW).symm, upd_same⟩⟩
    rintro σ H2 ⟨W0, rfl, f2, hF2, nW0, hWF0, hW2⟩
    refine ⟨fun σ H3 => ∃ v3 v4 v5, ∃ fs : List Int, ∃ i, σ = [some (.ref q), some (.int z), some (.ref F), v3, v4, v5] ∧ Same H H3 ∧ H3 F = some (.lst (fs.map V.int)) ∧ Br rows z i fs [], ?_, ?_⟩
    · refine ⟨_, rfl, q, _, rfl, .inl (lst_of (f2 _ _ hq)), _, _, rfl, rfl, .inl ⟨by decide, by decide⟩, _, _, rfl, rfl, _, rfl, by rw [List.length_map]; omega, by rw [List.length_map]; omega, ?_⟩
      have en : (2 * (((as.map V.ref).length : Nat) : Int) + 1).toNat = 2 * rows.length + 1 := by rw [List.length_map]; omega
      rw [en]
      refine for_range (lo := 0) (n := 2 * rows.length + 1) (fun i σ H3 => ∃ W v4 v5, ∃ fs ts : List Int, σ = [some (.ref q), some (.int z), some (.ref F), some (.ref W), v4, v5] ∧ Same H H3 ∧ H3 F = some (.lst (fs.map V.int)) ∧ H W = none ∧ W ≠ F ∧ H3 W = some (.lst (ts.map V.int)) ∧ Br rows z i fs ts)
        ⟨W0, _, _, [], [z], rfl, f2, hF2, nW0, hWF0, hW2, ⟨List.nodup_nil, fun _ h => (nomatch h), fun j hj => by rw [List.mem_singleton.mp hj]; exact .refl, .inr (.inr (List.mem_singleton.mpr rfl)), fun _ h => (nomatch h), rfl⟩⟩ ?_ ?_
      · rintro i σ H3 hi ⟨W, v4, v5, fs, ts, rfl, f3, hF, nW, hWF, hW, B⟩
        have hfl := B.len G ⟨z1, z2⟩
        have hcnt := B.cnt
        refine ⟨fun σ H4 => ∃ (ts' : List Int) (pl : Int), ts = ts' ++ [pl] ∧ σ = [some (.ref q), some (.int z), some (.ref F), some (.ref W), some (.int (0 + (i : Nat))), v5] ∧ H4 = H3, ?_, ?_⟩
        · refine ⟨_, rfl, _, .inl ⟨_, lst_of hW, rfl⟩, ?_⟩
          rcases List.eq_nil_or_concat ts with rfl | ⟨ts', pl, rfl⟩
          · exact iteT ⟨_, _, _, fs, i, rfl, f3, hF, B⟩
          · rw [List.concat_eq_append]
            have tr : (!(!((ts' ++ [pl]).map V.int).isEmpty)) = false := by cases ts' <;> rfl
            rw [tr]
            exact iteF ⟨ts', pl, rfl, rfl, rfl⟩
        rintro σ H4 ⟨ts', pl, rfl, rfl, rfl⟩
        have hpl := B.t0 pl (List.mem_append.mpr (.inr (List.mem_singleton.mpr rfl)))
        have hpb := hpl.bounds G z1 z2
        rw [List.length_append, List.length_singleton] at hcnt
        refine ⟨fun σ H5 => σ = [some (.ref q), some (.int z), some (.ref F), some (.ref W), some (.int (0 + (i : Nat))), some (.int pl)] ∧ Same H H5 ∧ H5 F = some (.lst (fs.map V.int)) ∧ H5 W = some (.lst (ts'.map V.int)), ?_, ?_⟩
        · refine ⟨_, rfl, .inl ⟨rfl, _, lst_of hW⟩, W, _, .int pl, rfl, rfl, hW, ?_, rfl, f3.mut nW, by rw [upd_ne hWF.symm]; exact hF, ?_⟩
          · rw [List.map_append, List.length_append, List.getElem?_append_right (by simp)]
            simp
          · rw [upd_same, List.map_append]
            simp
        rintro σ H5 ⟨rfl, f5, hF5, hW5⟩
        have skip : ¬ 0 ≤ pl ∨ pl ∈ fs → ∃ W2 v4 v5, ∃ fs ts : List Int, ([some (.ref q), some (.int z), some (.ref F), some (.ref W), some (.int (0 + (i : Nat))), some (.int pl)] : List (Option V)) = [some (.ref q), some (.int z), some (.ref F), some (.ref W2), v4, v5] ∧ Same H H5 ∧ H5 F = some (.lst (fs.map V.int)) ∧ H W2 = none ∧ W2 ≠ F ∧ H5 W2 = some (.lst (ts.map V.int)) ∧ Br rows z (i + 1) fs ts := fun hs => by
          have low : ∀ x : Int, x ∈ ts' ++ [pl] → x < 0 ∨ x ∈ fs ∨ x ∈ ts' := fun x hx => by
            rcases List.mem_append.mp hx with h | h
            · exact .inr (.inr h)
            · rw [List.mem_singleton.mp h]
              exact hs.elim (fun h => .inl (by omega)) fun h => .inr (.inl h)
          have low2 : ∀ x : Int, (x < 0 ∨ x ∈ fs ∨ x ∈ ts' ++ [pl]) → x < 0 ∨ x ∈ fs ∨ x ∈ ts' := fun x hx => hx.elim .inl fun h => h.elim (fun h => .inr (.inl h)) (low x)
          exact ⟨W, _, _, fs, ts', rfl, f5, hF5, nW, hWF, hW5, ⟨B.nd, B.f0, fun j hj => B.t0 j (List.mem_append.mpr (.inl hj)), low2 z B.zin, fun j hj q a b r hr => ⟨low2 a (B.cl j hj q a b r hr).1, low2 b (B.cl j hj q a b r hr).2⟩, by omega⟩⟩
        refine ⟨_, rfl, _, _, rfl, rfl, _, rfl, ite2 (fun h0 => ?_) (fun h0 => iteF (let ⟨a1, a2, a3, a4, a5, a6⟩ := skip (.inl fun h => h0 (decide_eq_true h)); ⟨a1, a2, a3, a4, a5, a6⟩))⟩
        have h0 : 0 ≤ pl := of_decide_eq_true h0
        refine ⟨_, rfl, _, rfl, in_k (neg := true) (.inl (lst_of hF5)) ⟨_, rfl, ite2 (fun hin => ?_) (fun hin => let ⟨a1, a2, a3, a4, a5, a6⟩ := skip (.inr (by simpa using hin)); ⟨a1, a2, a3, a4, a5, a6⟩)⟩⟩
        have hin : pl ∉ fs := by simpa using hin
        obtain ⟨n, rfl⟩ : ∃ n : Nat, pl = (n : Int) := ⟨pl.toNat, by omega⟩
        obtain ⟨an, row, han, hrn, hrw⟩ := rows_get hrows (show n < rows.length by omega)
        obtain ⟨qq, a', b', r, rfl, _⟩ := G.two hrn
        have hfs : fs.length ≤ 40 := by omega
        refine ⟨_, rfl, .inl ⟨rfl, _, lst_of hF5⟩, _, rfl, F, _, _, rfl, rfl, hF5, by rw [List.length_map, sizeLine_eq]; omega, ?_⟩
        have f6 := f5.mut nF (o := .lst (fs.map V.int ++ [.int (n : Int)]))
        have hW6 : upd H5 F (.lst (fs.map V.int ++ [.int (n : Int)])) W = some (.lst (ts'.map V.int)) := by rw [upd_ne hWF]; exact hW5
        refine ⟨_, rfl, _, rfl, _, rfl, q, _, (n : Int), _, rfl, rfl, lst_of (f6 _ _ hq), at_tup (by rw [List.getElem?_map, han]; rfl), an, _, 1, .int a', rfl, rfl, tup_of (f6 _ _ hrw), at_tup (j := 1) rfl, ?_⟩
        refine ⟨_, rfl, _, rfl, q, _, (n : Int), _, rfl, rfl, lst_of (f6 _ _ hq), at_tup (by rw [List.getElem?_map, han]; rfl), an, _, 2, .int b', rfl, rfl, tup_of (f6 _ _ hrw), at_tup (j := 2) rfl, by show 2 ≤ sizeLine; decide, fun L nL => ?_⟩
        have f7 := same_upd nL (o := .lst [.int a', .int b'])
        refine ⟨W, L, _, _, rfl, rfl, f7 _ _ hW6, upd_same, by rw [List.length_map, sizeLine_eq]; show _ + 2 ≤ _; omega, fun W' nW' => ?_⟩
        have f8 := f7.trans (same_upd nW' (o := .lst (ts'.map V.int ++ [.int a', .int b'])))
        have hF8 := f8 _ _ (upd_same (H := H5) (a := F) (o := .lst (fs.map V.int ++ [.int (n : Int)])))
        refine ⟨W', _, _, fs ++ [(n : Int)], ts' ++ [a', b'], rfl, f6.trans f8, by rw [hF8, List.map_append]; rfl, (f6.trans f7).free nW', ?_, by rw [upd_same, List.map_append]; rfl, ⟨nd_snoc B.nd hin, fun j hj => ?_, fun j hj => ?_, ?_, fun j hj q2 a2 b2 r2 hr2 => ?_, by rw [List.length_append, List.length_append, List.length_singleton]; show i + 1 + (_ + 2) = _; omega⟩⟩
        · exact (ne_of_none (f7 _ _ (upd_same (H := H5) (a := F) (o := .lst (fs.map V.int ++ [.int (n : Int)])))) nW').symm
        · rcases List.mem_append.mp hj with hj | hj
          · exact B.f0 j hj
          · rw [List.mem_singleton.mp hj]; exact ⟨h0, hpl⟩
        · rcases List.mem_append.mp hj with hj | hj
          · exact B.t0 j (List.mem_append.mpr (.inl hj))
          · refine .step hpl h0 (by rw [Int.toNat_natCast]; exact hrn) ?_
            rcases List.mem_cons.mp hj with h | h
            · exact .inl h
            · exact .inr (List.mem_singleton.mp h)
        · rcases B.zin with h | h | h
          · exact .inl h
          · exact .inr (.inl (List.mem_append.mpr (.inl h)))
          · rcases List.mem_append.mp h with h | h
            · exact .inr (.inr (List.mem_append.mpr (.inl h)))
            · exact .inr (.inl (List.mem_append.mpr (.inr h)))
        · have up : ∀ x : Int, (x < 0 ∨ x ∈ fs ∨ x ∈ ts' ++ [(n : Int)]) → x < 0 ∨ x ∈ fs ++ [(n : Int)] ∨ x ∈ ts' ++ [a', b'] := fun x hx => by
            rcases hx with h | h | h
            · exact .inl h
            · exact .inr (.inl (List.mem_append.mpr (.inl h)))
            · rcases List.mem_append.mp h with h | h
              · exact .inr (.inr (List.mem_append.mpr (.inl h)))
              · exact .inr (.inl (List.mem_append.mpr (.inr h)))
          rcases List.mem_append.mp hj with hj | hj
          · exact ⟨up a2 (B.cl j hj q2 a2 b2 r2 hr2).1, up b2 (B.cl j hj q2 a2 b2 r2 hr2).2⟩
          · rw [List.mem_singleton.mp hj, Int.toNat_natCast, hrn] at hr2
            simp only [Option.some.injEq, List.cons.injEq] at hr2
            obtain ⟨_, rfl, rfl, _⟩ := hr2
            exact ⟨.inr (.inr (List.mem_append.mpr (.inr List.mem_cons_self))), .inr (.inr (List.mem_append.mpr (.inr (List.mem_cons_of_mem _ List.mem_cons_self))))⟩
      · rintro σ H3 ⟨W, v4, v5, fs, ts, rfl, f3, hF, nW, hWF, hW, B⟩
        have hfl := B.len G ⟨z1, z2⟩
        have hcnt := B.cnt
        have ht : ts = [] := List.eq_nil_of_length_eq_zero (by omega)
        subst ht
        exact ⟨_, _, _, fs, _, rfl, f3, hF, B⟩
    rintro σ H3 ⟨v3, v4, v5, fs, i, rfl, f3, hF, B⟩
    have hfl := B.len G ⟨z1, z2⟩
    refine ⟨_, rfl, F, rfl, ⟨_, lst_of hF⟩, fun C nC => ?_⟩
    refine lc_list (K := K) (a := F) (xs := fs.map V.int) (fun i H2 => Same H3 H2 ∧ H2 C = some (.lst ((fs.take i).map V.int))) ⟨same_upd nC, upd_same⟩ (fun i H2 _ h => lst_of (h.1 _ _ hF)) (fun i y H2 hi h => ?_) (fun H2 h => ?_)
    · obtain ⟨f2, hC⟩ := h
      obtain ⟨p, hp, rfl⟩ := get_map_int hi
      refine ⟨rfl, tyes ⟨_, rfl, .inl ⟨_, rfl, _, hC, ?_, f2.mut nC, by rw [upd_same, take_get hp, List.map_append]; rfl⟩⟩⟩
      rw [List.length_map, List.length_take, sizeLine_eq]
      omega
    · obtain ⟨f2, hC⟩ := h
      rw [List.length_map, List.take_length] at hC
      refine ⟨C, fs, rfl, lst_of hC, by omega, fun ns p hperm hsrt np => ?_⟩
      have hnd : ns.Nodup := hperm.nodup_iff.mpr B.nd
      have hlt : ns.Pairwise (· < ·) := (hsrt.and hnd).imp fun h => by omega
      have ens : ns = norm fs := norm_of_sorted hlt (fun x => hperm.mem_iff) fun x hx => by
        obtain ⟨x0, xl⟩ := B.f0 x hx
        have := (xl.bounds G z1 z2).2
        omega
      subst ens
      exact k _ p fs ((f3.trans f2).trans (same_upd np)) upd_same B.reached
end
end K27

namespace K27
open PySem PySem.Spec PyProof.Rows L2
section
variable {P : Program} {w : World} {K : PySem.W.Frag} {mg : Str → Option Value} {base : Heap} {a : Ad}
def sp_law (K : PySem.W.Frag) : Sp := fun vs H Q _ => ∃ (x : Addr) (ns : List Int), vs = [.ref x] ∧ ScrAt K H x (ns.map V.int) ∧ ns.length ≤ 63 ∧ ∀ H', Q (.bl true) H'
theorem norm_same {l l' : List Int} (h : ∀ k, k ∈ l ↔ k ∈ l') : norm l = norm l' := norm_ext fun x _ _ => h x
theorem ok_law (T : Txt K mg a) : FnOk P w K mg base CX0 8 a.f_law a.d_law P_law (sp_law K) := by
  refine T.F_law.ok sc_law (fun vs H Q E h => ?_) (fun cdv A outer s H vs Q E hr h => ?_)
  · obtain ⟨x, ns, rfl, _⟩ := h
    rfl
  · obtain ⟨x, ns, rfl, hx, hl, k⟩ := h
    refine ⟨_, (Evl.pss_cut (ps_set (i := 1) sc_law.nd rfl (Or.inl rfl) (pe_lst (pa_cons (pe_callTy call_list_of (by rfl) T.z_list (by decide +kernel) (pa_cons (pv 0) pa_nil)) (pa_cons pe_int pa_nil))))
  (Evl.pss_cut (ps_asg (pe_call (ok_l_one_web T) (hr.mono (by decide)) (by rfl) T.g_l_one_web T.k_l_one_web T.b_l_one_web .nil pass0 (pa_cons (pv 1) (pa_cons pe_int pa_nil))) (pg_tup rfl (pgs_cons (pg_name (i := 2) sc_law.nd rfl (Or.inl rfl)) (pgs_cons (pg_name (i := 3) sc_law.nd rfl (Or.inr rfl)) (pgs_cons (pg_name (i := 4) sc_law.nd rfl (Or.inl rfl)) pgs_nil)))))
  (Evl.pss_cut (ps_set (i := 5) sc_law.nd rfl (Or.inl rfl) (pe_call (ok_l_marks T) (hr.mono (by decide)) (by rfl) T.g_l_marks T.k_l_marks T.b_l_marks .nil pass0 (pa_cons (pv 1) (pa_cons (pv 4) pa_nil))))
  (Evl.pss_cut (ps_set (i := 6) sc_law.nd rfl (Or.inl rfl) (pe_call (ok_l_start T) (hr.mono (by decide)) (by rfl) T.g_l_start T.k_l_start T.b_l_start .nil pass0 (pa_cons (pv 3) pa_nil)))
  (Evl.pss_cut (ps_if (pt_cmpR op_eq (pe_call (ok_l_draw T) (hr.mono (by decide)) (by rfl) T.g_l_draw T.k_l_draw T.b_l_draw .nil pass0 (pa_cons (pv 1) (pa_cons pe_int pa_nil))) pe_int (nomark _))
    (pss_one (ps_set (i := 6) sc_law.nd rfl (Or.inl rfl) (pe_op op_sub (pe_call (ok_l_draw T) (hr.mono (by decide)) (by rfl) T.g_l_draw T.k_l_draw T.b_l_draw .nil pass0 (pa_cons (pv 1) (pa_cons (pe_op op_add (pe_callB call_len_seq (by rfl) T.z_len (by decide +kernel) (pa_cons (pv 3) pa_nil)) (pv 4)) pa_nil))) (pv 4))))
    pss_nil)
  (Evl.pss_cut (ps_set (i := 7) sc_law.nd rfl (Or.inl rfl) (pe_makeN (gV := fun us ws => us ++ ws) T.mk_Web (ok_Web_init T) (hr.mono (by decide)) (by rfl) T.g_Web T.kb_Web_init_start (passAt0 pass0) (pa_cons (pv 3) (pa_cons (pv 4) pa_nil)) (pk_cons (pv 6) pk_nil)))
  (Evl.pss_cut (ps_set (i := 8) sc_law.nd rfl (Or.inl rfl) (pe_callTy call_tuple_of (by rfl) T.z_tuple (by decide +kernel) (pa_cons (pe_lc (own := [("_law_at", 13)]) (g := gName 13) (tt := tYes) (te := (tTup (tCons (tOp (rIxT K) (tOp (rIxL K) (tVar 3) (tVar 13)) (tC (.int 2))) (tCons (tOp (rIxT K) (tOp (rIxL K) (tVar 3) (tVar 13)) (tC (.int 1))) tNil)))) rfl sc_law.nd (pi_list (pe_call (ok_l_reached T) (hr.mono (by decide)) (by rfl) T.g_l_reached T.k_l_reached T.b_l_reached .nil pass0 (pa_cons (pv 3) (pa_cons (pv 6) pa_nil)))) (blkOk_by (N := N_law) (sc := defScope s_law) (by decide +kernel)) (fun _ _ _ _ _ => pg_name (i := 13) sc_law.nd rfl (Or.inl rfl)) (fun _ _ _ _ _ => pts_nil) (fun _ _ _ _ _ => by exact (pe_tup (pa_cons (pe_ix ix_tup (pe_ix ix_list (pv 3) (pv 13) (by intro _ _; rfl)) pe_int (by intro _ _; rfl)) (pa_cons (pe_ix ix_tup (pe_ix ix_list (pv 3) (pv 13) (by intro _ _; rfl)) pe_int (by intro _ _; rfl)) pa_nil))))) pa_nil)))
  (Evl.pss_cut (ps_if (pt_cmpR (op_neD hr.units) (pe_call (ok_splits T) (hr.mono (by decide)) (by rfl) T.g_splits T.k_splits T.b_splits .nil pass0 (pa_cons (pv 7) pa_nil)) (pv 8) (nomark _))
    (pss_one (ps_ret pe_bl))
    pss_nil)
  (Evl.pss_cut (ps_set (i := 9) sc_law.nd rfl (Or.inl rfl) (pe_lst pa_nil))
  (Evl.pss_cut (ps_for PassesOwn.never rfl (pi_range1 (by rfl) T.z_range (pa_cons (pv 4) pa_nil)) (pg_name (i := 10) sc_law.nd rfl (Or.inl rfl))
    (pss_one (ps_for PassesOwn.never rfl (pi_range1 (by rfl) T.z_range (pa_cons (pv 4) pa_nil)) (pg_name (i := 11) sc_law.nd rfl (Or.inl rfl))
    (pss_one (ps_if (pt_cmpR op_le (pe_ix ix_list (pv 5) (pv 10) (by intro _ _; rfl)) (pe_ix ix_list (pv 5) (pv 11) (by intro _ _; rfl)) (nomark _))
    (pss_one (ps_expr (pe_bm PySem.F.plainAttrs_list PySem.F.slot_list_append PySem.F.type_list_append mt_append (pv 9) (pa_cons (pe_tup (pa_cons (pv 10) (pa_cons (pv 11) pa_nil))) pa_nil))))
    pss_nil)))))
  (Evl.pss_cut (ps_set (i := 12) sc_law.nd rfl (Or.inl rfl) (pe_callTy call_list_of (by rfl) T.z_list (by decide +kernel) (pa_cons (pv 5) pa_nil)))
  (pss_one (ps_ret (pe_and (pe_cmpR (op_eqD hr.units) (pe_call (ok_harmless T) (hr.mono (by decide)) (by rfl) T.g_harmless T.k_harmless T.b_harmless .nil pass0 (pa_cons (pv 12) pa_nil)) (pe_callTy call_tuple_of (by rfl) T.z_tuple (by decide +kernel) (pa_cons (pv 9) pa_nil)) (nomark _)) (pe_one (pe_cmpR (op_eqD hr.units) (pv 12) (pv 5) (nomark _))))))))))))))))), ?_⟩
    refine ⟨fun σ H1 => ∃ p c, σ = [some (.ref x), some (.ref p), none, none, none, none, none, none, none, none, none, none, none, none] ∧ Stt p c H1, ?_, ?_⟩
    · refine ⟨_, rfl, x, _, rfl, .inl hx.seq, fun c nc => ⟨by show 2 ≤ sizeLine; decide, fun p np => ?_⟩⟩
      exact ⟨p, c, rfl, (ne_of_none upd_same np).symm, ns, 0, upd_same, (same_upd np) _ _ upd_same⟩
    rintro σ H1 ⟨p, c, rfl, s1⟩
    refine ⟨fun σ H2 => ∃ pl D e, ∃ (l : List Int) (as : List Addr) (rows bels : List (List Int)), σ = [some (.ref x), some (.ref p), some (.ref pl), some (.ref D), some (.int e), none, none, none, none, none, none, none, none, none] ∧ Stt p c H2 ∧ H2 D = some (.lst (as.map V.ref)) ∧ D ≠ p ∧ D ≠ c ∧ RowsAt H2 as rows ∧ Qn l ∧ GoodS e rows.length l rows bels ∧ rows.length ≤ 8 ∧ 1 ≤ e ∧ e ≤ 5, ?_, ?_⟩
    · refine ⟨_, rfl, p, c, 8, rfl, s1, by decide, fun H2 t pl D l as rows bels e nD f2 s2 ht hD hrows hq hS hlen e1 e5 => ?_⟩
      exact ⟨t, _, rfl, tup_of ht, rfl, _, _, rfl, _, _, rfl, _, _, rfl, rfl, pl, D, e, l, as, rows, bels, rfl, s2, hD, (s1.ne nD).1, (s1.ne nD).2, hrows, hq, hS, hlen, e1, e5⟩
    rintro σ H2 ⟨pl, D, e, l, as, rows, bels, rfl, s2, hD, d1, d2, hrows, hqn, hS, hlen, e1, e5⟩
    have asl : as.length = rows.length := hrows.1
    -- the marks
    refine ⟨fun σ H3 => ∃ M, ∃ ms : List Int, σ = [some (.ref x), some (.ref p), some (.ref pl), some (.ref D), some (.int e), some (.ref M), none, none, none, none, none, none, none, none] ∧ Stt p c H3 ∧ H3 D = some (.lst (as.map V.ref)) ∧ RowsAt H3 as rows ∧ H3 M = some (.lst (ms.map V.int)) ∧ M ≠ p ∧ M ≠ c ∧ e.toNat = ms.length, ?_, ?_⟩
    · exact ⟨_, rfl, _, rfl, p, c, e, rfl, s2, by omega, by omega, fun H3 M ms nM f3 s3 hM hml => ⟨M, ms, rfl, s3, f3.2 _ _ d1 d2 hD, hrows.fr f3, hM, (s2.ne nM).1, (s2.ne nM).2, hml.symm⟩⟩
    rintro σ H3 ⟨M, ms, rfl, s3, hD, hrows, hM, m1, m2, hml⟩
    -- the place
    refine ⟨fun σ H4 => ∃ o : Int, -e ≤ o ∧ o < rows.length ∧ σ = [some (.ref x), some (.ref p), some (.ref pl), some (.ref D), some (.int e), some (.ref M), some (.int o), none, none, none, none, none, none, none] ∧ H4 = H3, ?_, ?_⟩
    · refine ⟨_, rfl, D, _, rfl, hD, ?_⟩
      cases as with
      | nil => exact ⟨-1, by omega, by omega, rfl, rfl⟩
      | cons y ys => exact ⟨0, by omega, by rw [← asl, List.length_cons]; omega, rfl, rfl⟩
    rintro σ H4 ⟨o0, o01, o02, rfl, rfl⟩
    refine ⟨fun σ H5 => ∃ o : Int, -e ≤ o ∧ o < rows.length ∧ σ = [some (.ref x), some (.ref p), some (.ref pl), some (.ref D), some (.int e), some (.ref M), some (.int o), none, none, none, none, none, none, none] ∧ H5 D = some (.lst (as.map V.ref)) ∧ RowsAt H5 as rows ∧ H5 M = some (.lst (ms.map V.int)), ?_, ?_⟩
    · refine ⟨_, rfl, p, c, 3, rfl, s3, by decide, by decide, fun H5 r f5 s5 r0 r1 => ⟨rfl, _, rfl, ite2 (fun h => ?_) (fun h => ?_)⟩⟩
      · have hD5 := f5.2 _ _ d1 d2 hD
        refine ⟨_, rfl, _, rfl, D, _, rfl, .inl (lst_of hD5), _, rfl, _, _, rfl, rfl, p, c, _, rfl, s5, by rw [List.length_map]; omega, by rw [List.length_map]; omega, fun H6 r2 f6 s6 r20 r21 => ?_⟩
        rw [List.length_map, asl] at r21
        exact ⟨_, rfl, _, _, rfl, rfl, r2 - e, by omega, by omega, rfl, f6.2 _ _ d1 d2 hD5, hrows.fr (f5.trans f6), (f5.trans f6).2 _ _ m1 m2 hM⟩
      · exact ⟨o0, o01, o02, rfl, f5.2 _ _ d1 d2 hD, hrows.fr f5, f5.2 _ _ m1 m2 hM⟩
    rintro σ H5 ⟨o, o1, o2, rfl, hD, hrows, hM⟩
    have G : GoodW rows e o := hS.good (o := o) hqn e1 (by omega) (by omega) o1 o2
    -- the web
    refine ⟨fun σ H6 => ∃ w, σ = [some (.ref x), some (.ref p), some (.ref pl), some (.ref D), some (.int e), some (.ref M), some (.int o), some (.ref w), none, none, none, none, none, none] ∧ H6 D = some (.lst (as.map V.ref)) ∧ RowsAt H6 as rows ∧ H6 M = some (.lst (ms.map V.int)) ∧ WebAt a.c_Web H6 w rows e o, ?_, ?_⟩
    · exact ⟨_, rfl, _, rfl, _, rfl, rfl, rfl, fun y dy ny nd ndy => made ny nd ndy (lst_of hD) hrows.1 (fun i b row h1 h2 => .inl (hrows.2 i b row h1 h2)) G fun H6 w6 e6 => ⟨rfl, y, rfl, e6 _ _ hD, hrows.same e6, e6 _ _ hM, w6⟩⟩
    rintro σ H6 ⟨w, rfl, hD, hrows, hM, hw⟩
    -- what is due
    refine ⟨fun σ H7 => ∃ t, ∃ (ps : List Addr) (l : List Int), σ = [some (.ref x), some (.ref p), some (.ref pl), some (.ref D), some (.int e), some (.ref M), some (.int o), some (.ref w), some (.ref t), none, none, none, none, none] ∧ Same H6 H7 ∧ H7 t = some (.tup (ps.map V.ref)) ∧ RowsAt H7 ps (prsOf rows (norm l)) ∧ IsReached rows o l, ?_, ?_⟩
    · refine ⟨_, rfl, _, rfl, D, as, rows, e, o, o, rfl, hD, hrows, G, by omega, o1, o2, fun H1 R l f1 hR hA => ?_⟩
      have nl := norm_len l
      refine ⟨R, rfl, ⟨_, lst_of hR⟩, fun C nC => ?_⟩
      refine lc_list (K := K) (a := R) (xs := (norm l).map V.int) (fun i H2 => Same H1 H2 ∧ ∃ ps : List Addr, H2 C = some (.lst (ps.map V.ref)) ∧ RowsAt H2 ps (prsOf rows ((norm l).take i))) ⟨same_upd nC, [], upd_same, ⟨rfl, fun j _ _ h => by simp at h⟩⟩ (fun i H2 _ h => lst_of (h.1 _ _ hR)) (fun i y H2 hi h => ?_) (fun H2 h => ?_)
      · obtain ⟨f2, ps, hC, hps⟩ := h
        obtain ⟨p', hp, rfl⟩ := get_map_int hi
        have hil : i < (norm l).length := (List.getElem?_eq_some_iff.mp hp).1
        have hpm := mem_norm.mp (List.mem_of_getElem? hp)
        obtain ⟨p0, hl⟩ := (hA p').mp hpm.2
        have hb := hl.bounds G G.o1 G.o2
        have f12 := f1.trans f2
        obtain ⟨n, rfl⟩ : ∃ n : Nat, p' = (n : Int) := ⟨p'.toNat, by omega⟩
        obtain ⟨an, row, han, hrn, hrw⟩ := rows_get (hrows.same f12) (show n < rows.length by omega)
        obtain ⟨q, a', b', r, rfl, _⟩ := G.two hrn
        have hrn' : rows[((n : Int)).toNat]? = some (q :: a' :: b' :: r) := by rw [Int.toNat_natCast]; exact hrn
        have epr : prOf rows (n : Int) = [b', a'] := by unfold prOf; rw [hrn']
        refine ⟨rfl, tyes ⟨_, rfl, _, rfl, D, _, (n : Int), _, rfl, rfl, lst_of (f12 _ _ hD), at_tup (by rw [List.getElem?_map, han]; rfl), an, _, 2, .int b', rfl, rfl, tup_of hrw, at_tup (j := 2) rfl, ?_⟩⟩
        refine ⟨_, rfl, _, rfl, D, _, (n : Int), _, rfl, rfl, lst_of (f12 _ _ hD), at_tup (by rw [List.getElem?_map, han]; rfl), an, _, 1, .int a', rfl, rfl, tup_of hrw, at_tup (j := 1) rfl, by show 2 ≤ sizeLine; decide, fun v nv => ?_⟩
        have e3 := same_upd nv (o := .tup [.int b', .int a'])
        have pl : ps.length = i := by rw [hps.1]; unfold prsOf; rw [List.length_map, List.length_take]; omega
        refine ⟨_, e3 _ _ hC, by rw [List.length_map, sizeLine_eq]; omega, (f2.trans e3).mut nC, ps ++ [v], by rw [upd_same, List.map_append]; rfl, ?_⟩
        have em : prsOf rows ((norm l).take (i + 1)) = prsOf rows ((norm l).take i) ++ [[b', a']] := by
          unfold prsOf
          rw [take_get hp, List.map_append, List.map_cons, epr]
          rfl
        rw [em]
        exact rows_app (e3 _ _ hC) (hps.same e3) upd_same
      · obtain ⟨f2, ps, hC, hps⟩ := h
        rw [List.length_map, List.take_length] at hps
        refine ⟨C, _, rfl, .inl ⟨lst_of hC, fun u nu => ?_⟩⟩
        have e3 := same_upd nu (o := .tup (ps.map V.ref))
        exact ⟨u, ps, l, rfl, (f1.trans f2).trans e3, upd_same, hps.same e3, hA⟩
    rintro σ H7 ⟨t, ps, lr, rfl, f7, ht, hps, hlr⟩
    have hM := f7 _ _ hM
    have hw := hw.same f7
    -- splits
    refine ⟨fun σ H8 => σ = [some (.ref x), some (.ref p), some (.ref pl), some (.ref D), some (.int e), some (.ref M), some (.int o), some (.ref w), some (.ref t), none, none, none, none, none] ∧ H8 M = some (.lst (ms.map V.int)), ?_, ?_⟩
    · refine ⟨_, rfl, w, rows, e, o, rfl, hw, G, by omega, fun H8 t2 ps2 l2 f8 ht2 hps2 hl2 => ⟨_, rfl, ?_⟩⟩
      refine neD_rows ht2 (f8 _ _ ht) hps2 (hps.same f8) ⟨_, rfl, ?_⟩
      rw [norm_same (l := l2) (l' := lr) fun k => (hl2 k).trans (hlr k).symm, show (!decide (prsOf rows (norm lr) = prsOf rows (norm lr))) = false by simp]
      exact iteF ⟨rfl, f8 _ _ hM⟩
    rintro σ H8 ⟨rfl, hM⟩
    refine ⟨fun σ H9 => ∃ B, σ = [some (.ref x), some (.ref p), some (.ref pl), some (.ref D), some (.int e), some (.ref M), some (.int o), some (.ref w), some (.ref t), some (.ref B), none, none, none, none] ∧ H8 B = none ∧ Same H8 H9 ∧ H9 B = some (.lst []), ?_, ?_⟩
    · exact ⟨by show 0 ≤ sizeLine; decide, fun B nB => ⟨B, rfl, nB, same_upd nB, upd_same⟩⟩
    rintro σ H9 ⟨B, rfl, nB, f9, hB⟩
    -- the pairs
    have hml5 : ms.length ≤ 5 := by omega
    have hpl : ∀ i, i ≤ 5 → (hp ms i).length ≤ 25 := fun i hi => Nat.le_trans (hp_len ms i) (Nat.le_trans (Nat.mul_le_mul hi hml5) (by decide))
    refine ⟨fun σ H10 => ∃ v10 v11, ∃ ps : List Addr, σ = [some (.ref x), some (.ref p), some (.ref pl), some (.ref D), some (.int e), some (.ref M), some (.int o), some (.ref w), some (.ref t), some (.ref B), v10, v11, none, none] ∧ Same H8 H10 ∧ H10 B = some (.lst (ps.map V.ref)) ∧ RowsAt H10 ps (hp ms ms.length), ?_, ?_⟩
    · refine ⟨_, rfl, _, rfl, by omega, by omega, ?_⟩
      rw [hml]
      refine for_range (lo := 0) (n := ms.length) (fun i σ H10 => ∃ v10 v11, ∃ ps : List Addr, σ = [some (.ref x), some (.ref p), some (.ref pl), some (.ref D), some (.int e), some (.ref M), some (.int o), some (.ref w), some (.ref t), some (.ref B), v10, v11, none, none] ∧ Same H8 H10 ∧ H10 B = some (.lst (ps.map V.ref)) ∧ RowsAt H10 ps (hp ms i)) ⟨_, _, [], rfl, f9, hB, ⟨rfl, fun j _ _ h => by simp at h⟩⟩ ?_ (fun σ H h => h)
      rintro i σ H10 hi ⟨v10, v11, ps, rfl, f10, hB, hps⟩
      rw [show (0 : Int) + ((i : Nat) : Int) = (i : Int) by omega]
      refine ⟨_, rfl, _, rfl, by omega, by omega, ?_⟩
      rw [hml]
      refine for_range (lo := 0) (n := ms.length) (fun j σ H10 => ∃ v11, ∃ ps : List Addr, σ = [some (.ref x), some (.ref p), some (.ref pl), some (.ref D), some (.int e), some (.ref M), some (.int o), some (.ref w), some (.ref t), some (.ref B), some (.int (i : Int)), v11, none, none] ∧ Same H8 H10 ∧ H10 B = some (.lst (ps.map V.ref)) ∧ RowsAt H10 ps (hp ms i ++ hrow ms i j)) ⟨_, ps, rfl, f10, hB, by unfold hrow; rw [List.append_nil]; exact hps⟩ ?_ ?_
      · rintro j σ H11 hj ⟨v11, ps, rfl, f11, hB, hps⟩
        rw [show (0 : Int) + ((j : Nat) : Int) = (j : Int) by omega]
        have hM11 := f11 _ _ hM
        refine ⟨_, rfl, _, rfl, M, _, (i : Int), _, rfl, rfl, lst_of hM11, atI_nat (getD_at hi), _, rfl, _, rfl, M, _, (j : Int), _, rfl, rfl, lst_of hM11, atI_nat (getD_at hj), _, _, rfl, rfl, _, rfl, ite2 (fun hle => ?_) (fun hle => ?_)⟩
        · have hle : ms.getD i 0 ≤ ms.getD j 0 := of_decide_eq_true hle
          refine ⟨_, rfl, .inl ⟨rfl, _, lst_of hB⟩, _, rfl, _, rfl, by show 2 ≤ sizeLine; decide, fun u nu => ?_⟩
          have e4 := same_upd nu (o := .tup [.int (i : Int), .int (j : Int)])
          have hp1 := hpl i (by omega)
          have hp2 := hrow_len ms i j
          refine ⟨B, _, _, rfl, rfl, e4 _ _ hB, ?_, _, ps ++ [u], rfl, (f11.trans e4).mut nB, by rw [upd_same, List.map_append]; rfl, ?_⟩
          · rw [List.length_map, sizeLine_eq, hps.1, List.length_append]
            omega
          · unfold hrow
            rw [if_pos hle, ← List.append_assoc]
            exact rows_app (e4 _ _ hB) (hps.same e4) upd_same
        · have hle : ¬ ms.getD i 0 ≤ ms.getD j 0 := fun z => hle (decide_eq_true z)
          refine ⟨_, ps, rfl, f11, hB, ?_⟩
          unfold hrow
          rw [if_neg hle, List.append_nil]
          exact hps
      · rintro σ H11 ⟨v11, ps, rfl, f11, hB, hps⟩
        exact ⟨_, _, ps, rfl, f11, hB, by unfold hp; exact hps⟩
    rintro σ H10 ⟨v10, v11, ps', rfl, f10, hB, hps'⟩
    have hM := f10 _ _ hM
    -- given
    refine ⟨fun σ H11 => ∃ g, σ = [some (.ref x), some (.ref p), some (.ref pl), some (.ref D), some (.int e), some (.ref M), some (.int o), some (.ref w), some (.ref t), some (.ref B), v10, v11, some (.ref g), none] ∧ Same H10 H11 ∧ H11 g = some (.lst (ms.map V.int)), ?_, ?_⟩
    · exact ⟨_, rfl, M, _, rfl, .inl (lst_of hM), fun g ng => ⟨g, rfl, same_upd ng, upd_same⟩⟩
    rintro σ H11 ⟨g, rfl, f11, hg⟩
    refine ⟨_, rfl, g, ms, rfl, hg, by omega, fun H12 t3 ps3 f12 ht3 hps3 => ?_⟩
    have f112 := f11.trans f12
    refine ⟨_, rfl, B, _, rfl, .inl ⟨lst_of (f112 _ _ hB), fun t4 nt4 => ?_⟩⟩
    have f13 := same_upd nt4 (o := .tup (ps'.map V.ref))
    refine eqD_rows (f13 _ _ ht3) upd_same (hps3.same f13) (hps'.same (f112.trans f13)) ⟨_, rfl, ?_⟩
    rw [decide_eq_true (rfl : hp ms ms.length = hp ms ms.length)]
    refine iteT ⟨_, rfl, _, rfl, eqD_lst (ns := ms) (ms := ms) (lst_of ((f12.trans f13) _ _ hg)) (lst_of ((f112.trans f13) _ _ hM)) ?_⟩
    rw [decide_eq_true (rfl : ms = ms)]
    exact k _
end
theorem all_mk {l : PySem.W.OpenLaw} {w : World} {K : PySem.W.Frag} {h : Heap} {mg : Str → Option Value} {fa c_TestError c_NoNode c_NoPosition c_Web f_is_question f_Web_contains f_Web_len f_Web_first f_Web_can_stand f_asked_twice f_Web_init f_NoNode_init f_NoPosition_init f_Web_getitem f_Web_led_to f_Web_reached f_splits f_harmless f_l_draw f_l_target f_l_below f_l_pool f_l_nodes f_l_start f_l_one_web f_l_marks f_l_reached f_law : Addr} (X : K.In h) (G : h.Ns mainGlobals mg) (hfa : mg "law" = some (.ref fa))
    {t_QUESTIONS t_MOST_ENDS : Tok}
    {od_is_question an_is_question od_Web_contains an_Web_contains od_Web_len an_Web_len od_Web_first an_Web_first od_Web_can_stand an_Web_can_stand od_asked_twice an_asked_twice od_Web_init an_Web_init od_NoNode_init an_NoNode_init od_NoPosition_init an_NoPosition_init od_Web_getitem an_Web_getitem od_Web_led_to an_Web_led_to od_Web_reached an_Web_reached od_splits an_splits od_harmless an_harmless od_l_draw an_l_draw od_l_target an_l_target od_l_below an_l_below od_l_pool an_l_pool od_l_nodes an_l_nodes od_l_start an_l_start od_l_one_web an_l_one_web od_l_marks an_l_marks od_l_reached an_l_reached od_law an_law : Option Addr}
    {sl_is_question sl_Web_contains sl_Web_len sl_Web_first sl_Web_can_stand sl_asked_twice sl_Web_init sl_NoNode_init sl_NoPosition_init sl_Web_getitem sl_Web_led_to sl_Web_reached sl_splits sl_harmless sl_l_draw sl_l_target sl_l_below sl_l_pool sl_l_nodes sl_l_start sl_l_one_web sl_l_marks sl_l_reached sl_law : Array (Option Value)}
    {kD_Web_init : Addr}
    {oc_is_question kV_is_question dc_is_question pm_is_question cd_is_question ct_is_question oc_Web_contains kV_Web_contains dc_Web_contains pm_Web_contains cd_Web_contains ct_Web_contains oc_Web_len kV_Web_len dc_Web_len pm_Web_len cd_Web_len ct_Web_len oc_Web_first kV_Web_first dc_Web_first pm_Web_first cd_Web_first ct_Web_first oc_Web_can_stand kV_Web_can_stand dc_Web_can_stand pm_Web_can_stand cd_Web_can_stand ct_Web_can_stand oc_asked_twice kV_asked_twice dc_asked_twice pm_asked_twice cd_asked_twice ct_asked_twice oc_Web_init dc_Web_init pm_Web_init cd_Web_init ct_Web_init oc_NoNode_init kV_NoNode_init dc_NoNode_init pm_NoNode_init cd_NoNode_init ct_NoNode_init oc_NoPosition_init kV_NoPosition_init dc_NoPosition_init pm_NoPosition_init cd_NoPosition_init ct_NoPosition_init oc_Web_getitem kV_Web_getitem dc_Web_getitem pm_Web_getitem cd_Web_getitem ct_Web_getitem oc_Web_led_to kV_Web_led_to dc_Web_led_to pm_Web_led_to cd_Web_led_to ct_Web_led_to oc_Web_reached kV_Web_reached dc_Web_reached pm_Web_reached cd_Web_reached ct_Web_reached oc_splits kV_splits dc_splits pm_splits cd_splits ct_splits oc_harmless kV_harmless dc_harmless pm_harmless cd_harmless ct_harmless oc_l_draw kV_l_draw dc_l_draw pm_l_draw cd_l_draw ct_l_draw oc_l_target kV_l_target dc_l_target pm_l_target cd_l_target ct_l_target oc_l_below kV_l_below dc_l_below pm_l_below cd_l_below ct_l_below oc_l_pool kV_l_pool dc_l_pool pm_l_pool cd_l_pool ct_l_pool oc_l_nodes kV_l_nodes dc_l_nodes pm_l_nodes cd_l_nodes ct_l_nodes oc_l_start kV_l_start dc_l_start pm_l_start cd_l_start ct_l_start oc_l_one_web kV_l_one_web dc_l_one_web pm_l_one_web cd_l_one_web ct_l_one_web oc_l_marks kV_l_marks dc_l_marks pm_l_marks cd_l_marks ct_l_marks oc_l_reached kV_l_reached dc_l_reached pm_l_reached cd_l_reached ct_l_reached oc_law kV_law dc_law pm_law cd_law ct_law : Value}
    {nm_NoNode qn_NoNode : Str} {ns_NoNode : Addr} {bs_NoNode : List Value} {sn_NoNode : List Str} {sub_NoNode : List Value} {ab_NoNode : Bool} {col_NoNode : Option Bool} {dd_NoNode : Option Addr} {m0_NoNode m1_NoNode m2_NoNode m3_NoNode m5_NoNode : Option Value}
    {nm_NoPosition qn_NoPosition : Str} {ns_NoPosition : Addr} {bs_NoPosition : List Value} {sn_NoPosition : List Str} {sub_NoPosition : List Value} {ab_NoPosition : Bool} {col_NoPosition : Option Bool} {dd_NoPosition : Option Addr} {m0_NoPosition m1_NoPosition m2_NoPosition m3_NoPosition m5_NoPosition : Option Value}
    (h_g_TestError : PySem.W.nsIn K mainGlobals "TestError" = some (some (.ref c_TestError)))
    (h_g_NoNode : PySem.W.nsIn K mainGlobals "NoNode" = some (some (.ref c_NoNode)))
    (h_g_NoPosition : PySem.W.nsIn K mainGlobals "NoPosition" = some (some (.ref c_NoPosition)))
    (h_g_Web : PySem.W.nsIn K mainGlobals "Web" = some (some (.ref c_Web)))
    (h_pg_Web : PySem.W.plainGet K c_Web Str.empty = true)
    (h_hd_Web : PySem.W.hasDictIn K c_Web = true)
    (h_po_Web : PySem.W.plainOver K c_Web = true)
    (h_sa_Web : PySem.W.findIn K (.ref c_Web) "__setattr__" = some (some (.builtin "object.__setattr__")))
    (h_mkk_Web : PySem.W.makesIn K c_Web = true)
    (h_kc_Web : PySem.W.keepIn K (.ref c_Web) = true)
    (h_nA_Web_nodes : PySem.W.findIn K (.ref c_Web) "nodes" = some none)
    (h_nA_Web_ends : PySem.W.findIn K (.ref c_Web) "ends" = some none)
    (h_nA_Web_start : PySem.W.findIn K (.ref c_Web) "start" = some none)
    (h_bga_TestError : PySem.W.specialIn K (.ref c_TestError) "__getattribute__" = some (some (.builtin "type.__getattribute__")))
    (h_ty_TestError : PySem.W.typeIn K (.ref c_TestError) = some (.type "type"))
    (h_brd_TestError : PySem.W.readsIn K c_TestError (.type "type") = true)
    (h_bfi_TestError : PySem.W.findCls K (.ref c_TestError) (.type "type") "__init__" = some (.val (.builtin "ValueError.__init__")))
    (h_xl_NoNode : K.lookup c_NoNode = some (excClassObj nm_NoNode qn_NoNode c_NoNode ns_NoNode bs_NoNode [.ref c_TestError, .type "ValueError", .type "Exception", .type "BaseException", .type "object"] true sn_NoNode sub_NoNode ab_NoNode col_NoNode dd_NoNode m0_NoNode m1_NoNode m2_NoNode m3_NoNode m5_NoNode "ValueError.__new__"))
    (h_sa_NoNode : PySem.W.findIn K (.ref c_NoNode) "__setattr__" = some (some (.builtin "object.__setattr__")))
    (h_eb_NoNode : PySem.W.subIn K (.ref c_NoNode) (.type "BaseException") = some true)
    (h_ty_NoNode : PySem.W.typeIn K (.ref c_NoNode) = some (.type "type"))
    (h_kc_NoNode : PySem.W.keepIn K (.ref c_NoNode) = true)
    (h_ga_NoNode : PySem.W.findIn K (.ref c_NoNode) "__getattribute__" = some (some (.builtin "BaseException.__getattribute__")))
    (h_gg_NoNode : PySem.W.findIn K (.ref c_NoNode) "__getattr__" = some none)
    (h_hd_NoNode : PySem.W.hasDictIn K c_NoNode = true)
    (h_ss_NoNode : PySem.W.subIn K (.ref c_NoNode) (.ref c_NoNode) = some true)
    (h_ic1_NoNode : PySem.W.findIn K (.ref c_NoNode) "__class__" = some (some (.builtin "object.__class__")))
    (h_eg2 : PySem.W.specialIn K (.builtin "object.__class__") "__get__" = some (some (.builtin "getset_descriptor.__get__")))
    (h_eg3 : PySem.W.takesIn K (.builtin "object.__class__") = some true)
    (h_ic4_NoNode : PySem.W.mroIn K c_NoNode (.type "object") = some true)
    (h_nf_NoNode_index : PySem.W.findIn K (.ref c_NoNode) "index" = some none)
    (h_sb_NoNode : PySem.W.subIn K (.ref c_NoNode) (.ref c_TestError) = some true)
    (h_icl_TestError : PySem.W.isClsIn K c_TestError = true)
    (h_xl_NoPosition : K.lookup c_NoPosition = some (excClassObj nm_NoPosition qn_NoPosition c_NoPosition ns_NoPosition bs_NoPosition [.ref c_TestError, .type "ValueError", .type "Exception", .type "BaseException", .type "object"] true sn_NoPosition sub_NoPosition ab_NoPosition col_NoPosition dd_NoPosition m0_NoPosition m1_NoPosition m2_NoPosition m3_NoPosition m5_NoPosition "ValueError.__new__"))
    (h_sa_NoPosition : PySem.W.findIn K (.ref c_NoPosition) "__setattr__" = some (some (.builtin "object.__setattr__")))
    (h_eb_NoPosition : PySem.W.subIn K (.ref c_NoPosition) (.type "BaseException") = some true)
    (h_ty_NoPosition : PySem.W.typeIn K (.ref c_NoPosition) = some (.type "type"))
    (h_kc_NoPosition : PySem.W.keepIn K (.ref c_NoPosition) = true)
    (h_ga_NoPosition : PySem.W.findIn K (.ref c_NoPosition) "__getattribute__" = some (some (.builtin "BaseException.__getattribute__")))
    (h_gg_NoPosition : PySem.W.findIn K (.ref c_NoPosition) "__getattr__" = some none)
    (h_hd_NoPosition : PySem.W.hasDictIn K c_NoPosition = true)
    (h_ss_NoPosition : PySem.W.subIn K (.ref c_NoPosition) (.ref c_NoPosition) = some true)
    (h_ic1_NoPosition : PySem.W.findIn K (.ref c_NoPosition) "__class__" = some (some (.builtin "object.__class__")))
    (h_ic4_NoPosition : PySem.W.mroIn K c_NoPosition (.type "object") = some true)
    (h_nf_NoPosition_place : PySem.W.findIn K (.ref c_NoPosition) "place" = some none)
    (h_sb_NoPosition : PySem.W.subIn K (.ref c_NoPosition) (.ref c_TestError) = some true)
    (h_a_is_question : PySem.W.nsIn K mainGlobals "is_question" = some (some (.ref f_is_question)))
    (h_l_is_question : K.lookup f_is_question = some ⟨oc_is_question, od_is_question, .func (PySem.W.fnOf "is_question" "is_question" (defArgs s_is_question) (defBody s_is_question) (defScope s_is_question) .none kV_is_question dc_is_question pm_is_question an_is_question cd_is_question ct_is_question), sl_is_question⟩)
    (h_c_is_question : PySem.W.codeIn K cd_is_question "is_question" = true)
    (h_k_is_question : PySem.W.keepIn K (.ref f_is_question) = true)
    (h_a_Web_contains : PySem.W.findIn K (.ref c_Web) "__contains__" = some (some (.ref f_Web_contains)))
    (h_i_Web_contains : PySem.W.isFn K (.ref f_Web_contains) = true)
    (h_l_Web_contains : K.lookup f_Web_contains = some ⟨oc_Web_contains, od_Web_contains, .func (PySem.W.fnOf "__contains__" "Web.__contains__" (defArgs s_Web_contains) (defBody s_Web_contains) (defScope s_Web_contains) .none kV_Web_contains dc_Web_contains pm_Web_contains an_Web_contains cd_Web_contains ct_Web_contains), sl_Web_contains⟩)
    (h_c_Web_contains : PySem.W.codeIn K cd_Web_contains "Web.__contains__" = true)
    (h_k_Web_contains : PySem.W.keepIn K (.ref f_Web_contains) = true)
    (h_a_Web_len : PySem.W.findIn K (.ref c_Web) "__len__" = some (some (.ref f_Web_len)))
    (h_i_Web_len : PySem.W.isFn K (.ref f_Web_len) = true)
    (h_l_Web_len : K.lookup f_Web_len = some ⟨oc_Web_len, od_Web_len, .func (PySem.W.fnOf "__len__" "Web.__len__" (defArgs s_Web_len) (defBody s_Web_len) (defScope s_Web_len) .none kV_Web_len dc_Web_len pm_Web_len an_Web_len cd_Web_len ct_Web_len), sl_Web_len⟩)
    (h_c_Web_len : PySem.W.codeIn K cd_Web_len "Web.__len__" = true)
    (h_k_Web_len : PySem.W.keepIn K (.ref f_Web_len) = true)
    (h_a_Web_first : PySem.W.findIn K (.ref c_Web) "_first" = some (some (.ref f_Web_first)))
    (h_i_Web_first : PySem.W.isFn K (.ref f_Web_first) = true)
    (h_l_Web_first : K.lookup f_Web_first = some ⟨oc_Web_first, od_Web_first, .func (PySem.W.fnOf "_first" "Web._first" (defArgs s_Web_first) (defBody s_Web_first) (defScope s_Web_first) .none kV_Web_first dc_Web_first pm_Web_first an_Web_first cd_Web_first ct_Web_first), sl_Web_first⟩)
    (h_c_Web_first : PySem.W.codeIn K cd_Web_first "Web._first" = true)
    (h_k_Web_first : PySem.W.keepIn K (.ref f_Web_first) = true)
    (h_a_Web_can_stand : PySem.W.findIn K (.ref c_Web) "_can_stand" = some (some (.ref f_Web_can_stand)))
    (h_i_Web_can_stand : PySem.W.isFn K (.ref f_Web_can_stand) = true)
    (h_l_Web_can_stand : K.lookup f_Web_can_stand = some ⟨oc_Web_can_stand, od_Web_can_stand, .func (PySem.W.fnOf "_can_stand" "Web._can_stand" (defArgs s_Web_can_stand) (defBody s_Web_can_stand) (defScope s_Web_can_stand) .none kV_Web_can_stand dc_Web_can_stand pm_Web_can_stand an_Web_can_stand cd_Web_can_stand ct_Web_can_stand), sl_Web_can_stand⟩)
    (h_c_Web_can_stand : PySem.W.codeIn K cd_Web_can_stand "Web._can_stand" = true)
    (h_k_Web_can_stand : PySem.W.keepIn K (.ref f_Web_can_stand) = true)
    (h_a_asked_twice : PySem.W.nsIn K mainGlobals "_asked_twice" = some (some (.ref f_asked_twice)))
    (h_l_asked_twice : K.lookup f_asked_twice = some ⟨oc_asked_twice, od_asked_twice, .func (PySem.W.fnOf "_asked_twice" "_asked_twice" (defArgs s_asked_twice) (defBody s_asked_twice) (defScope s_asked_twice) .none kV_asked_twice dc_asked_twice pm_asked_twice an_asked_twice cd_asked_twice ct_asked_twice), sl_asked_twice⟩)
    (h_c_asked_twice : PySem.W.codeIn K cd_asked_twice "_asked_twice" = true)
    (h_k_asked_twice : PySem.W.keepIn K (.ref f_asked_twice) = true)
    (h_a_Web_init : PySem.W.findIn K (.ref c_Web) "__init__" = some (some (.ref f_Web_init)))
    (h_i_Web_init : PySem.W.isFn K (.ref f_Web_init) = true)
    (h_l_Web_init : K.lookup f_Web_init = some ⟨oc_Web_init, od_Web_init, .func (PySem.W.fnOf "__init__" "Web.__init__" (defArgs s_Web_init) (defBody s_Web_init) (defScope s_Web_init) .none (.ref kD_Web_init) dc_Web_init pm_Web_init an_Web_init cd_Web_init ct_Web_init), sl_Web_init⟩)
    (h_c_Web_init : PySem.W.codeIn K cd_Web_init "Web.__init__" = true)
    (h_k_Web_init : PySem.W.keepIn K (.ref f_Web_init) = true)
    (h_kd_Web_init_start : PySem.W.nsIn K kD_Web_init "start" = some (some .none))
    (h_a_NoNode_init : PySem.W.findIn K (.ref c_NoNode) "__init__" = some (some (.ref f_NoNode_init)))
    (h_i_NoNode_init : PySem.W.isFn K (.ref f_NoNode_init) = true)
    (h_l_NoNode_init : K.lookup f_NoNode_init = some ⟨oc_NoNode_init, od_NoNode_init, .func (PySem.W.fnOf "__init__" "NoNode.__init__" (defArgs s_NoNode_init) (defBody s_NoNode_init) (defScope s_NoNode_init) .none kV_NoNode_init dc_NoNode_init pm_NoNode_init an_NoNode_init cd_NoNode_init ct_NoNode_init), sl_NoNode_init⟩)
    (h_c_NoNode_init : PySem.W.codeIn K cd_NoNode_init "NoNode.__init__" = true)
    (h_k_NoNode_init : PySem.W.keepIn K (.ref f_NoNode_init) = true)
    (h_a_NoPosition_init : PySem.W.findIn K (.ref c_NoPosition) "__init__" = some (some (.ref f_NoPosition_init)))
    (h_i_NoPosition_init : PySem.W.isFn K (.ref f_NoPosition_init) = true)
    (h_l_NoPosition_init : K.lookup f_NoPosition_init = some ⟨oc_NoPosition_init, od_NoPosition_init, .func (PySem.W.fnOf "__init__" "NoPosition.__init__" (defArgs s_NoPosition_init) (defBody s_NoPosition_init) (defScope s_NoPosition_init) .none kV_NoPosition_init dc_NoPosition_init pm_NoPosition_init an_NoPosition_init cd_NoPosition_init ct_NoPosition_init), sl_NoPosition_init⟩)
    (h_c_NoPosition_init : PySem.W.codeIn K cd_NoPosition_init "NoPosition.__init__" = true)
    (h_k_NoPosition_init : PySem.W.keepIn K (.ref f_NoPosition_init) = true)
    (h_a_Web_getitem : PySem.W.findIn K (.ref c_Web) "__getitem__" = some (some (.ref f_Web_getitem)))
    (h_i_Web_getitem : PySem.W.isFn K (.ref f_Web_getitem) = true)
    (h_fn_Web_getitem : PySem.W.fnIn K f_Web_getitem = true)
    (h_l_Web_getitem : K.lookup f_Web_getitem = some ⟨oc_Web_getitem, od_Web_getitem, .func (PySem.W.fnOf "__getitem__" "Web.__getitem__" (defArgs s_Web_getitem) (defBody s_Web_getitem) (defScope s_Web_getitem) .none kV_Web_getitem dc_Web_getitem pm_Web_getitem an_Web_getitem cd_Web_getitem ct_Web_getitem), sl_Web_getitem⟩)
    (h_c_Web_getitem : PySem.W.codeIn K cd_Web_getitem "Web.__getitem__" = true)
    (h_k_Web_getitem : PySem.W.keepIn K (.ref f_Web_getitem) = true)
    (h_a_Web_led_to : PySem.W.findIn K (.ref c_Web) "_led_to" = some (some (.ref f_Web_led_to)))
    (h_i_Web_led_to : PySem.W.isFn K (.ref f_Web_led_to) = true)
    (h_l_Web_led_to : K.lookup f_Web_led_to = some ⟨oc_Web_led_to, od_Web_led_to, .func (PySem.W.fnOf "_led_to" "Web._led_to" (defArgs s_Web_led_to) (defBody s_Web_led_to) (defScope s_Web_led_to) .none kV_Web_led_to dc_Web_led_to pm_Web_led_to an_Web_led_to cd_Web_led_to ct_Web_led_to), sl_Web_led_to⟩)
    (h_c_Web_led_to : PySem.W.codeIn K cd_Web_led_to "Web._led_to" = true)
    (h_k_Web_led_to : PySem.W.keepIn K (.ref f_Web_led_to) = true)
    (h_a_Web_reached : PySem.W.findIn K (.ref c_Web) "reached" = some (some (.ref f_Web_reached)))
    (h_i_Web_reached : PySem.W.isFn K (.ref f_Web_reached) = true)
    (h_l_Web_reached : K.lookup f_Web_reached = some ⟨oc_Web_reached, od_Web_reached, .func (PySem.W.fnOf "reached" "Web.reached" (defArgs s_Web_reached) (defBody s_Web_reached) (defScope s_Web_reached) .none kV_Web_reached dc_Web_reached pm_Web_reached an_Web_reached cd_Web_reached ct_Web_reached), sl_Web_reached⟩)
    (h_c_Web_reached : PySem.W.codeIn K cd_Web_reached "Web.reached" = true)
    (h_k_Web_reached : PySem.W.keepIn K (.ref f_Web_reached) = true)
    (h_a_splits : PySem.W.nsIn K mainGlobals "splits" = some (some (.ref f_splits)))
    (h_l_splits : K.lookup f_splits = some ⟨oc_splits, od_splits, .func (PySem.W.fnOf "splits" "splits" (defArgs s_splits) (defBody s_splits) (defScope s_splits) .none kV_splits dc_splits pm_splits an_splits cd_splits ct_splits), sl_splits⟩)
    (h_c_splits : PySem.W.codeIn K cd_splits "splits" = true)
    (h_k_splits : PySem.W.keepIn K (.ref f_splits) = true)
    (h_a_harmless : PySem.W.nsIn K mainGlobals "harmless" = some (some (.ref f_harmless)))
    (h_l_harmless : K.lookup f_harmless = some ⟨oc_harmless, od_harmless, .func (PySem.W.fnOf "harmless" "harmless" (defArgs s_harmless) (defBody s_harmless) (defScope s_harmless) .none kV_harmless dc_harmless pm_harmless an_harmless cd_harmless ct_harmless), sl_harmless⟩)
    (h_c_harmless : PySem.W.codeIn K cd_harmless "harmless" = true)
    (h_k_harmless : PySem.W.keepIn K (.ref f_harmless) = true)
    (h_a_l_draw : PySem.W.nsIn K mainGlobals "_law_draw" = some (some (.ref f_l_draw)))
    (h_l_l_draw : K.lookup f_l_draw = some ⟨oc_l_draw, od_l_draw, .func (PySem.W.fnOf "_law_draw" "_law_draw" (defArgs s_l_draw) (defBody s_l_draw) (defScope s_l_draw) .none kV_l_draw dc_l_draw pm_l_draw an_l_draw cd_l_draw ct_l_draw), sl_l_draw⟩)
    (h_c_l_draw : PySem.W.codeIn K cd_l_draw "_law_draw" = true)
    (h_k_l_draw : PySem.W.keepIn K (.ref f_l_draw) = true)
    (h_a_l_target : PySem.W.nsIn K mainGlobals "_law_target" = some (some (.ref f_l_target)))
    (h_l_l_target : K.lookup f_l_target = some ⟨oc_l_target, od_l_target, .func (PySem.W.fnOf "_law_target" "_law_target" (defArgs s_l_target) (defBody s_l_target) (defScope s_l_target) .none kV_l_target dc_l_target pm_l_target an_l_target cd_l_target ct_l_target), sl_l_target⟩)
    (h_c_l_target : PySem.W.codeIn K cd_l_target "_law_target" = true)
    (h_k_l_target : PySem.W.keepIn K (.ref f_l_target) = true)
    (h_a_l_below : PySem.W.nsIn K mainGlobals "_law_below" = some (some (.ref f_l_below)))
    (h_l_l_below : K.lookup f_l_below = some ⟨oc_l_below, od_l_below, .func (PySem.W.fnOf "_law_below" "_law_below" (defArgs s_l_below) (defBody s_l_below) (defScope s_l_below) .none kV_l_below dc_l_below pm_l_below an_l_below cd_l_below ct_l_below), sl_l_below⟩)
    (h_c_l_below : PySem.W.codeIn K cd_l_below "_law_below" = true)
    (h_k_l_below : PySem.W.keepIn K (.ref f_l_below) = true)
    (h_a_l_pool : PySem.W.nsIn K mainGlobals "_law_pool" = some (some (.ref f_l_pool)))
    (h_l_l_pool : K.lookup f_l_pool = some ⟨oc_l_pool, od_l_pool, .func (PySem.W.fnOf "_law_pool" "_law_pool" (defArgs s_l_pool) (defBody s_l_pool) (defScope s_l_pool) .none kV_l_pool dc_l_pool pm_l_pool an_l_pool cd_l_pool ct_l_pool), sl_l_pool⟩)
    (h_c_l_pool : PySem.W.codeIn K cd_l_pool "_law_pool" = true)
    (h_k_l_pool : PySem.W.keepIn K (.ref f_l_pool) = true)
    (h_a_l_nodes : PySem.W.nsIn K mainGlobals "_law_nodes" = some (some (.ref f_l_nodes)))
    (h_l_l_nodes : K.lookup f_l_nodes = some ⟨oc_l_nodes, od_l_nodes, .func (PySem.W.fnOf "_law_nodes" "_law_nodes" (defArgs s_l_nodes) (defBody s_l_nodes) (defScope s_l_nodes) .none kV_l_nodes dc_l_nodes pm_l_nodes an_l_nodes cd_l_nodes ct_l_nodes), sl_l_nodes⟩)
    (h_c_l_nodes : PySem.W.codeIn K cd_l_nodes "_law_nodes" = true)
    (h_k_l_nodes : PySem.W.keepIn K (.ref f_l_nodes) = true)
    (h_a_l_start : PySem.W.nsIn K mainGlobals "_law_start" = some (some (.ref f_l_start)))
    (h_l_l_start : K.lookup f_l_start = some ⟨oc_l_start, od_l_start, .func (PySem.W.fnOf "_law_start" "_law_start" (defArgs s_l_start) (defBody s_l_start) (defScope s_l_start) .none kV_l_start dc_l_start pm_l_start an_l_start cd_l_start ct_l_start), sl_l_start⟩)
    (h_c_l_start : PySem.W.codeIn K cd_l_start "_law_start" = true)
    (h_k_l_start : PySem.W.keepIn K (.ref f_l_start) = true)
    (h_a_l_one_web : PySem.W.nsIn K mainGlobals "_law_one_web" = some (some (.ref f_l_one_web)))
    (h_l_l_one_web : K.lookup f_l_one_web = some ⟨oc_l_one_web, od_l_one_web, .func (PySem.W.fnOf "_law_one_web" "_law_one_web" (defArgs s_l_one_web) (defBody s_l_one_web) (defScope s_l_one_web) .none kV_l_one_web dc_l_one_web pm_l_one_web an_l_one_web cd_l_one_web ct_l_one_web), sl_l_one_web⟩)
    (h_c_l_one_web : PySem.W.codeIn K cd_l_one_web "_law_one_web" = true)
    (h_k_l_one_web : PySem.W.keepIn K (.ref f_l_one_web) = true)
    (h_a_l_marks : PySem.W.nsIn K mainGlobals "_law_marks" = some (some (.ref f_l_marks)))
    (h_l_l_marks : K.lookup f_l_marks = some ⟨oc_l_marks, od_l_marks, .func (PySem.W.fnOf "_law_marks" "_law_marks" (defArgs s_l_marks) (defBody s_l_marks) (defScope s_l_marks) .none kV_l_marks dc_l_marks pm_l_marks an_l_marks cd_l_marks ct_l_marks), sl_l_marks⟩)
    (h_c_l_marks : PySem.W.codeIn K cd_l_marks "_law_marks" = true)
    (h_k_l_marks : PySem.W.keepIn K (.ref f_l_marks) = true)
    (h_a_l_reached : PySem.W.nsIn K mainGlobals "_law_reached" = some (some (.ref f_l_reached)))
    (h_l_l_reached : K.lookup f_l_reached = some ⟨oc_l_reached, od_l_reached, .func (PySem.W.fnOf "_law_reached" "_law_reached" (defArgs s_l_reached) (defBody s_l_reached) (defScope s_l_reached) .none kV_l_reached dc_l_reached pm_l_reached an_l_reached cd_l_reached ct_l_reached), sl_l_reached⟩)
    (h_c_l_reached : PySem.W.codeIn K cd_l_reached "_law_reached" = true)
    (h_k_l_reached : PySem.W.keepIn K (.ref f_l_reached) = true)
    (h_a_law : PySem.W.nsIn K mainGlobals "law" = some (some (.ref f_law)))
    (h_l_law : K.lookup f_law = some ⟨oc_law, od_law, .func (PySem.W.fnOf "law" "law" (defArgs s_law) (defBody s_law) (defScope s_law) .none kV_law dc_law pm_law an_law cd_law ct_law), sl_law⟩)
    (h_c_law : PySem.W.codeIn K cd_law "law" = true)
    (h_k_law : PySem.W.keepIn K (.ref f_law) = true)
    (h_ti_NoNode : PySem.W.typeIn K (.ref f_NoNode_init) = some (.type "function"))
    (h_ti_NoPosition : PySem.W.typeIn K (.ref f_NoPosition_init) = some (.type "function"))
    (h_g_QUESTIONS : PySem.W.nsIn K mainGlobals "QUESTIONS" = some (some (.int 48 t_QUESTIONS)))
    (h_g_MOST_ENDS : PySem.W.nsIn K mainGlobals "MOST_ENDS" = some (some (.int 60 t_MOST_ENDS)))
    (h_z_all : PySem.W.nsIn K mainGlobals "all" = some none)
    (h_z_enumerate : PySem.W.nsIn K mainGlobals "enumerate" = some none)
    (h_z_int : PySem.W.nsIn K mainGlobals "int" = some none)
    (h_z_len : PySem.W.nsIn K mainGlobals "len" = some none)
    (h_z_list : PySem.W.nsIn K mainGlobals "list" = some none)
    (h_z_range : PySem.W.nsIn K mainGlobals "range" = some none)
    (h_z_reversed : PySem.W.nsIn K mainGlobals "reversed" = some none)
    (h_z_set : PySem.W.nsIn K mainGlobals "set" = some none)
    (h_z_sorted : PySem.W.nsIn K mainGlobals "sorted" = some none)
    (h_z_tuple : PySem.W.nsIn K mainGlobals "tuple" = some none) :
    ∃ fd : FuncData, (∀ (s : Shared) (v : Value), BindsTo s fd ⟨[v], []⟩ [("_law_script", v)]) ∧ ∀ base : Heap, K.In base → base.Ns mainGlobals mg → FnOk l.prog w K mg base CX0 8 fa fd ["_law_script"] (sp_law K) := by
  have e := hfa.symm.trans (PySem.W.mg_of X G h_a_law)
  cases e
  have FD_Web_init : FunD K "__init__" "Web.__init__" (defArgs s_Web_init) (defBody s_Web_init) (defScope s_Web_init) [] [("start", V.non)] f_Web_init (PySem.W.fnOf "__init__" "Web.__init__" (defArgs s_Web_init) (defBody s_Web_init) (defScope s_Web_init) .none (.ref kD_Web_init) dc_Web_init pm_Web_init an_Web_init cd_Web_init ct_Web_init) :=
    ⟨⟨_, _, _, _, _, _, _, _, _, _, rfl, h_l_Web_init, h_c_Web_init, .inl ⟨rfl, rfl⟩, .inr ⟨_, rfl, fun q hq => (by simp only [List.mem_cons, List.not_mem_nil, or_false] at hq; subst hq; exact ⟨_, h_kd_Web_init_start, rfl⟩)⟩⟩, h_k_Web_init⟩
  have KD_Web_init : ∃ ds, Vals [V.non] ds ∧ L2.Binds K _ P_Web_init ds := FD_Web_init.binds0 3 (by simp) rfl fun D doc pm an cdv ct us ks hu hk => match us, hu, ks, hk with | [_, _, _], _, [_], _ => ⟨_, _, _, _, _, _, rfl, rfl, rfl⟩
  have T : Txt K mg (Ad.mk c_TestError c_NoNode c_NoPosition c_Web f_is_question (PySem.W.fnOf "is_question" "is_question" (defArgs s_is_question) (defBody s_is_question) (defScope s_is_question) .none kV_is_question dc_is_question pm_is_question an_is_question cd_is_question ct_is_question) f_Web_contains (PySem.W.fnOf "__contains__" "Web.__contains__" (defArgs s_Web_contains) (defBody s_Web_contains) (defScope s_Web_contains) .none kV_Web_contains dc_Web_contains pm_Web_contains an_Web_contains cd_Web_contains ct_Web_contains) f_Web_len (PySem.W.fnOf "__len__" "Web.__len__" (defArgs s_Web_len) (defBody s_Web_len) (defScope s_Web_len) .none kV_Web_len dc_Web_len pm_Web_len an_Web_len cd_Web_len ct_Web_len) f_Web_first (PySem.W.fnOf "_first" "Web._first" (defArgs s_Web_first) (defBody s_Web_first) (defScope s_Web_first) .none kV_Web_first dc_Web_first pm_Web_first an_Web_first cd_Web_first ct_Web_first) f_Web_can_stand (PySem.W.fnOf "_can_stand" "Web._can_stand" (defArgs s_Web_can_stand) (defBody s_Web_can_stand) (defScope s_Web_can_stand) .none kV_Web_can_stand dc_Web_can_stand pm_Web_can_stand an_Web_can_stand cd_Web_can_stand ct_Web_can_stand) f_asked_twice (PySem.W.fnOf "_asked_twice" "_asked_twice" (defArgs s_asked_twice) (defBody s_asked_twice) (defScope s_asked_twice) .none kV_asked_twice dc_asked_twice pm_asked_twice an_asked_twice cd_asked_twice ct_asked_twice) f_Web_init (PySem.W.fnOf "__init__" "Web.__init__" (defArgs s_Web_init) (defBody s_Web_init) (defScope s_Web_init) .none (.ref kD_Web_init) dc_Web_init pm_Web_init an_Web_init cd_Web_init ct_Web_init) f_NoNode_init (PySem.W.fnOf "__init__" "NoNode.__init__" (defArgs s_NoNode_init) (defBody s_NoNode_init) (defScope s_NoNode_init) .none kV_NoNode_init dc_NoNode_init pm_NoNode_init an_NoNode_init cd_NoNode_init ct_NoNode_init) f_NoPosition_init (PySem.W.fnOf "__init__" "NoPosition.__init__" (defArgs s_NoPosition_init) (defBody s_NoPosition_init) (defScope s_NoPosition_init) .none kV_NoPosition_init dc_NoPosition_init pm_NoPosition_init an_NoPosition_init cd_NoPosition_init ct_NoPosition_init) f_Web_getitem (PySem.W.fnOf "__getitem__" "Web.__getitem__" (defArgs s_Web_getitem) (defBody s_Web_getitem) (defScope s_Web_getitem) .none kV_Web_getitem dc_Web_getitem pm_Web_getitem an_Web_getitem cd_Web_getitem ct_Web_getitem) f_Web_led_to (PySem.W.fnOf "_led_to" "Web._led_to" (defArgs s_Web_led_to) (defBody s_Web_led_to) (defScope s_Web_led_to) .none kV_Web_led_to dc_Web_led_to pm_Web_led_to an_Web_led_to cd_Web_led_to ct_Web_led_to) f_Web_reached (PySem.W.fnOf "reached" "Web.reached" (defArgs s_Web_reached) (defBody s_Web_reached) (defScope s_Web_reached) .none kV_Web_reached dc_Web_reached pm_Web_reached an_Web_reached cd_Web_reached ct_Web_reached) f_splits (PySem.W.fnOf "splits" "splits" (defArgs s_splits) (defBody s_splits) (defScope s_splits) .none kV_splits dc_splits pm_splits an_splits cd_splits ct_splits) f_harmless (PySem.W.fnOf "harmless" "harmless" (defArgs s_harmless) (defBody s_harmless) (defScope s_harmless) .none kV_harmless dc_harmless pm_harmless an_harmless cd_harmless ct_harmless) f_l_draw (PySem.W.fnOf "_law_draw" "_law_draw" (defArgs s_l_draw) (defBody s_l_draw) (defScope s_l_draw) .none kV_l_draw dc_l_draw pm_l_draw an_l_draw cd_l_draw ct_l_draw) f_l_target (PySem.W.fnOf "_law_target" "_law_target" (defArgs s_l_target) (defBody s_l_target) (defScope s_l_target) .none kV_l_target dc_l_target pm_l_target an_l_target cd_l_target ct_l_target) f_l_below (PySem.W.fnOf "_law_below" "_law_below" (defArgs s_l_below) (defBody s_l_below) (defScope s_l_below) .none kV_l_below dc_l_below pm_l_below an_l_below cd_l_below ct_l_below) f_l_pool (PySem.W.fnOf "_law_pool" "_law_pool" (defArgs s_l_pool) (defBody s_l_pool) (defScope s_l_pool) .none kV_l_pool dc_l_pool pm_l_pool an_l_pool cd_l_pool ct_l_pool) f_l_nodes (PySem.W.fnOf "_law_nodes" "_law_nodes" (defArgs s_l_nodes) (defBody s_l_nodes) (defScope s_l_nodes) .none kV_l_nodes dc_l_nodes pm_l_nodes an_l_nodes cd_l_nodes ct_l_nodes) f_l_start (PySem.W.fnOf "_law_start" "_law_start" (defArgs s_l_start) (defBody s_l_start) (defScope s_l_start) .none kV_l_start dc_l_start pm_l_start an_l_start cd_l_start ct_l_start) f_l_one_web (PySem.W.fnOf "_law_one_web" "_law_one_web" (defArgs s_l_one_web) (defBody s_l_one_web) (defScope s_l_one_web) .none kV_l_one_web dc_l_one_web pm_l_one_web an_l_one_web cd_l_one_web ct_l_one_web) f_l_marks (PySem.W.fnOf "_law_marks" "_law_marks" (defArgs s_l_marks) (defBody s_l_marks) (defScope s_l_marks) .none kV_l_marks dc_l_marks pm_l_marks an_l_marks cd_l_marks ct_l_marks) f_l_reached (PySem.W.fnOf "_law_reached" "_law_reached" (defArgs s_l_reached) (defBody s_l_reached) (defScope s_l_reached) .none kV_l_reached dc_l_reached pm_l_reached an_l_reached cd_l_reached ct_l_reached) fa (PySem.W.fnOf "law" "law" (defArgs s_law) (defBody s_law) (defScope s_law) .none kV_law dc_law pm_law an_law cd_law ct_law) KD_Web_init.choose t_QUESTIONS t_MOST_ENDS) :=
    Txt.mk (PySem.W.mg_of X G h_g_TestError) (PySem.W.mg_of X G h_g_NoNode) (PySem.W.mg_of X G h_g_NoPosition) (PySem.W.mg_of X G h_g_Web) (⟨h_pg_Web, h_hd_Web, h_po_Web, h_sa_Web⟩) (⟨h_mkk_Web, h_a_Web_init, h_i_Web_init, h_kc_Web⟩) (h_nA_Web_nodes) (h_nA_Web_ends) (h_nA_Web_start) (⟨h_bga_TestError, h_ty_TestError, h_brd_TestError, h_bfi_TestError⟩) (⟨⟨_, _, _, _, _, _, _, _, _, _, _, _, _, _, _, h_xl_NoNode, by rfl⟩, h_sa_NoNode, h_eb_NoNode, h_ty_NoNode, h_kc_NoNode⟩) (⟨h_ga_NoNode, h_gg_NoNode, h_eb_NoNode, h_hd_NoNode⟩) (h_nf_NoNode_index) (PySem.W.exm_ref h_eb_NoNode h_hd_NoNode h_ty_NoNode h_ss_NoNode) (⟨h_ga_NoNode, h_gg_NoNode, h_eb_NoNode, h_hd_NoNode, h_ic1_NoNode, h_eg2, h_eg3, h_ic4_NoNode⟩) (h_a_NoNode_init) (h_ti_NoNode) (kit_sub h_sb_NoNode h_icl_TestError h_ty_TestError) (⟨⟨_, _, _, _, _, _, _, _, _, _, _, _, _, _, _, h_xl_NoPosition, by rfl⟩, h_sa_NoPosition, h_eb_NoPosition, h_ty_NoPosition, h_kc_NoPosition⟩) (⟨h_ga_NoPosition, h_gg_NoPosition, h_eb_NoPosition, h_hd_NoPosition⟩) (h_nf_NoPosition_place) (PySem.W.exm_ref h_eb_NoPosition h_hd_NoPosition h_ty_NoPosition h_ss_NoPosition) (⟨h_ga_NoPosition, h_gg_NoPosition, h_eb_NoPosition, h_hd_NoPosition, h_ic1_NoPosition, h_eg2, h_eg3, h_ic4_NoPosition⟩) (h_a_NoPosition_init) (h_ti_NoPosition) (kit_sub h_sb_NoPosition h_icl_TestError h_ty_TestError) (fun_mk h_l_is_question h_c_is_question h_k_is_question) ((fun_mk (st := s_is_question) h_l_is_question h_c_is_question h_k_is_question).binds (ps := P_is_question) fun _ _ _ _ _ _ us hl => match us, hl with | [_], _ => rfl) (h_k_is_question) (PySem.W.mg_of X G h_a_is_question) (fun_mk h_l_Web_contains h_c_Web_contains h_k_Web_contains) ((fun_mk (st := s_Web_contains) h_l_Web_contains h_c_Web_contains h_k_Web_contains).binds (ps := P_Web_contains) fun _ _ _ _ _ _ us hl => match us, hl with | [_, _], _ => rfl) (h_k_Web_contains) (h_i_Web_contains) (h_a_Web_contains) (fun_mk h_l_Web_len h_c_Web_len h_k_Web_len) ((fun_mk (st := s_Web_len) h_l_Web_len h_c_Web_len h_k_Web_len).binds (ps := P_Web_len) fun _ _ _ _ _ _ us hl => match us, hl with | [_], _ => rfl) (h_k_Web_len) (h_i_Web_len) (h_a_Web_len) (fun_mk h_l_Web_first h_c_Web_first h_k_Web_first) ((fun_mk (st := s_Web_first) h_l_Web_first h_c_Web_first h_k_Web_first).binds (ps := P_Web_first) fun _ _ _ _ _ _ us hl => match us, hl with | [_], _ => rfl) (h_k_Web_first) (h_i_Web_first) (⟨h_a_Web_first, h_i_Web_first, h_k_Web_first⟩) (fun_mk h_l_Web_can_stand h_c_Web_can_stand h_k_Web_can_stand) ((fun_mk (st := s_Web_can_stand) h_l_Web_can_stand h_c_Web_can_stand h_k_Web_can_stand).binds (ps := P_Web_can_stand) fun _ _ _ _ _ _ us hl => match us, hl with | [_, _, _], _ => rfl) (h_k_Web_can_stand) (h_i_Web_can_stand) (⟨h_a_Web_can_stand, h_i_Web_can_stand, h_k_Web_can_stand⟩) (fun_mk h_l_asked_twice h_c_asked_twice h_k_asked_twice) ((fun_mk (st := s_asked_twice) h_l_asked_twice h_c_asked_twice h_k_asked_twice).binds (ps := P_asked_twice) fun _ _ _ _ _ _ us hl => match us, hl with | [_], _ => rfl) (h_k_asked_twice) (PySem.W.mg_of X G h_a_asked_twice) (fun_mk h_l_Web_init h_c_Web_init h_k_Web_init) (h_k_Web_init) (h_i_Web_init) (KD_Web_init.choose_spec.1) (KD_Web_init.choose_spec.2) (⟨fun s us ws _ hl hw => match us, hl, ws, hw with | [_, _, _], _, [_], _ => .of_eq rfl, fun r1 r2 => vals_app r1 r2⟩) (fun_mk h_l_NoNode_init h_c_NoNode_init h_k_NoNode_init) ((fun_mk (st := s_NoNode_init) h_l_NoNode_init h_c_NoNode_init h_k_NoNode_init).binds (ps := P_NoNode_init) fun _ _ _ _ _ _ us hl => match us, hl with | [_, _], _ => rfl) (h_k_NoNode_init) (h_i_NoNode_init) (fun_mk h_l_NoPosition_init h_c_NoPosition_init h_k_NoPosition_init) ((fun_mk (st := s_NoPosition_init) h_l_NoPosition_init h_c_NoPosition_init h_k_NoPosition_init).binds (ps := P_NoPosition_init) fun _ _ _ _ _ _ us hl => match us, hl with | [_, _], _ => rfl) (h_k_NoPosition_init) (h_i_NoPosition_init) (fun_mk h_l_Web_getitem h_c_Web_getitem h_k_Web_getitem) ((fun_mk (st := s_Web_getitem) h_l_Web_getitem h_c_Web_getitem h_k_Web_getitem).binds (ps := P_Web_getitem) fun _ _ _ _ _ _ us hl => match us, hl with | [_, _], _ => rfl) (h_k_Web_getitem) (h_i_Web_getitem) (h_a_Web_getitem) (h_fn_Web_getitem) (fun_mk h_l_Web_led_to h_c_Web_led_to h_k_Web_led_to) ((fun_mk (st := s_Web_led_to) h_l_Web_led_to h_c_Web_led_to h_k_Web_led_to).binds (ps := P_Web_led_to) fun _ _ _ _ _ _ us hl => match us, hl with | [_, _], _ => rfl) (h_k_Web_led_to) (h_i_Web_led_to) (⟨h_a_Web_led_to, h_i_Web_led_to, h_k_Web_led_to⟩) (fun_mk h_l_Web_reached h_c_Web_reached h_k_Web_reached) ((fun_mk (st := s_Web_reached) h_l_Web_reached h_c_Web_reached h_k_Web_reached).binds (ps := P_Web_reached) fun _ _ _ _ _ _ us hl => match us, hl with | [_], _ => rfl) (h_k_Web_reached) (h_i_Web_reached) (⟨h_a_Web_reached, h_i_Web_reached, h_k_Web_reached⟩) (fun_mk h_l_splits h_c_splits h_k_splits) ((fun_mk (st := s_splits) h_l_splits h_c_splits h_k_splits).binds (ps := P_splits) fun _ _ _ _ _ _ us hl => match us, hl with | [_], _ => rfl) (h_k_splits) (PySem.W.mg_of X G h_a_splits) (fun_mk h_l_harmless h_c_harmless h_k_harmless) ((fun_mk (st := s_harmless) h_l_harmless h_c_harmless h_k_harmless).binds (ps := P_harmless) fun _ _ _ _ _ _ us hl => match us, hl with | [_], _ => rfl) (h_k_harmless) (PySem.W.mg_of X G h_a_harmless) (fun_mk h_l_l_draw h_c_l_draw h_k_l_draw) ((fun_mk (st := s_l_draw) h_l_l_draw h_c_l_draw h_k_l_draw).binds (ps := P_l_draw) fun _ _ _ _ _ _ us hl => match us, hl with | [_, _], _ => rfl) (h_k_l_draw) (PySem.W.mg_of X G h_a_l_draw) (fun_mk h_l_l_target h_c_l_target h_k_l_target) ((fun_mk (st := s_l_target) h_l_l_target h_c_l_target h_k_l_target).binds (ps := P_l_target) fun _ _ _ _ _ _ us hl => match us, hl with | [_, _, _, _], _ => rfl) (h_k_l_target) (PySem.W.mg_of X G h_a_l_target) (fun_mk h_l_l_below h_c_l_below h_k_l_below) ((fun_mk (st := s_l_below) h_l_l_below h_c_l_below h_k_l_below).binds (ps := P_l_below) fun _ _ _ _ _ _ us hl => match us, hl with | [_, _], _ => rfl) (h_k_l_below) (PySem.W.mg_of X G h_a_l_below) (fun_mk h_l_l_pool h_c_l_pool h_k_l_pool) ((fun_mk (st := s_l_pool) h_l_l_pool h_c_l_pool h_k_l_pool).binds (ps := P_l_pool) fun _ _ _ _ _ _ us hl => match us, hl with | [_], _ => rfl) (h_k_l_pool) (PySem.W.mg_of X G h_a_l_pool) (fun_mk h_l_l_nodes h_c_l_nodes h_k_l_nodes) ((fun_mk (st := s_l_nodes) h_l_l_nodes h_c_l_nodes h_k_l_nodes).binds (ps := P_l_nodes) fun _ _ _ _ _ _ us hl => match us, hl with | [_, _, _, _], _ => rfl) (h_k_l_nodes) (PySem.W.mg_of X G h_a_l_nodes) (fun_mk h_l_l_start h_c_l_start h_k_l_start) ((fun_mk (st := s_l_start) h_l_l_start h_c_l_start h_k_l_start).binds (ps := P_l_start) fun _ _ _ _ _ _ us hl => match us, hl with | [_], _ => rfl) (h_k_l_start) (PySem.W.mg_of X G h_a_l_start) (fun_mk h_l_l_one_web h_c_l_one_web h_k_l_one_web) ((fun_mk (st := s_l_one_web) h_l_l_one_web h_c_l_one_web h_k_l_one_web).binds (ps := P_l_one_web) fun _ _ _ _ _ _ us hl => match us, hl with | [_, _], _ => rfl) (h_k_l_one_web) (PySem.W.mg_of X G h_a_l_one_web) (fun_mk h_l_l_marks h_c_l_marks h_k_l_marks) ((fun_mk (st := s_l_marks) h_l_l_marks h_c_l_marks h_k_l_marks).binds (ps := P_l_marks) fun _ _ _ _ _ _ us hl => match us, hl with | [_, _], _ => rfl) (h_k_l_marks) (PySem.W.mg_of X G h_a_l_marks) (fun_mk h_l_l_reached h_c_l_reached h_k_l_reached) ((fun_mk (st := s_l_reached) h_l_l_reached h_c_l_reached h_k_l_reached).binds (ps := P_l_reached) fun _ _ _ _ _ _ us hl => match us, hl with | [_, _], _ => rfl) (h_k_l_reached) (PySem.W.mg_of X G h_a_l_reached) (fun_mk h_l_law h_c_law h_k_law) ((fun_mk (st := s_law) h_l_law h_c_law h_k_law).binds (ps := P_law) fun _ _ _ _ _ _ us hl => match us, hl with | [_], _ => rfl) (h_k_law) (PySem.W.mg_of X G h_a_law) (PySem.W.mg_of X G h_g_QUESTIONS) (PySem.W.mg_of X G h_g_MOST_ENDS) (PySem.W.mg_none_of X G h_z_all) (PySem.W.mg_none_of X G h_z_enumerate) (PySem.W.mg_none_of X G h_z_int) (PySem.W.mg_none_of X G h_z_len) (PySem.W.mg_none_of X G h_z_list) (PySem.W.mg_none_of X G h_z_range) (PySem.W.mg_none_of X G h_z_reversed) (PySem.W.mg_none_of X G h_z_set) (PySem.W.mg_none_of X G h_z_sorted) (PySem.W.mg_none_of X G h_z_tuple)
  exact ⟨_, fun s v => .of_eq rfl, fun base _ _ => ok_law T⟩
theorem walk {l : PySem.W.OpenLaw} {q : Program} {loose : List Str} {XP : (Str → Option Value) → Heap → Prop} {YP : World → Heap → Prop} {d : DefRec} {K : Params → PySem.W.Frag} (hn : l.most = some 63) (hdf : d.params.defaults = [])
    (hY : ∀ (w : World) (h : Heap), YP w h → (K w.params).In h)
    (F : ∀ (w : World) (mg : Str → Option Value) (fa : Addr) (h : Heap), (K w.params).In h → h.Ns mainGlobals mg → mg d.name = some (.ref fa) →
      ∃ fd : FuncData, (∀ (s : Shared) (u : Value), BindsTo s fd ⟨[u], []⟩ [("_law_script", u)]) ∧ ∀ base : Heap, (K w.params).In base → base.Ns mainGlobals mg → FnOk l.prog w (K w.params) mg base CX0 8 fa fd ["_law_script"] (sp_law (K w.params))) :
    PySem.W.WalkO q loose XP YP l.row.toRowW d [] (fun f vs => PySem.call f vs) :=
  L2.walk_of (n := 63) (k := 8) (x := "_law_script") (CX := fun _ => CX0) (sp := fun w => sp_law (K w.params)) hn (by decide) hdf ⟨rfl, by decide, by decide⟩ hY F (fun _ _ a ns hl hO hS => ⟨a, ns, rfl, scr_of hO hS, hl, fun _ => rfl⟩) fun _ _ _ _ _ z => z
end K27

open PySem PySem.W PyProof.Rows in
set_option maxRecDepth 100000 in
set_option maxHeartbeats 0 in
theorem PySem.Challenge.cw_steppedtests_k27_splits_and_harmless_pai_holds : PySem.Challenge.rw_steppedtests_k27_splits_and_harmless_pai.Holds := by
  w_on; o_law; k_head; (case hw => w_witness2)
  k_fill
  refine K27.walk (l := PySem.Challenge.rw_steppedtests_k27_splits_and_harmless_pai) rfl rfl (fun w h Y => PySem.W.kIn_of Y) ?F
  case F =>
    intro w mg fa h KX G hmg
    refine' K27.all_mk KX G hmg ?h_g_TestError ?h_g_NoNode ?h_g_NoPosition ?h_g_Web ?h_pg_Web ?h_hd_Web ?h_po_Web ?h_sa_Web ?h_mkk_Web ?h_kc_Web ?h_nA_Web_nodes ?h_nA_Web_ends ?h_nA_Web_start ?h_bga_TestError ?h_ty_TestError ?h_brd_TestError ?h_bfi_TestError ?h_xl_NoNode ?h_sa_NoNode ?h_eb_NoNode ?h_ty_NoNode ?h_kc_NoNode ?h_ga_NoNode ?h_gg_NoNode ?h_hd_NoNode ?h_ss_NoNode ?h_ic1_NoNode ?h_eg2 ?h_eg3 ?h_ic4_NoNode ?h_nf_NoNode_index ?h_sb_NoNode ?h_icl_TestError ?h_xl_NoPosition ?h_sa_NoPosition ?h_eb_NoPosition ?h_ty_NoPosition ?h_kc_NoPosition ?h_ga_NoPosition ?h_gg_NoPosition ?h_hd_NoPosition ?h_ss_NoPosition ?h_ic1_NoPosition ?h_ic4_NoPosition ?h_nf_NoPosition_place ?h_sb_NoPosition ?h_a_is_question ?h_l_is_question ?h_c_is_question ?h_k_is_question ?h_a_Web_contains ?h_i_Web_contains ?h_l_Web_contains ?h_c_Web_contains ?h_k_Web_contains ?h_a_Web_len ?h_i_Web_len ?h_l_Web_len ?h_c_Web_len ?h_k_Web_len ?h_a_Web_first ?h_i_Web_first ?h_l_Web_first ?h_c_Web_first ?h_k_Web_first ?h_a_Web_can_stand ?h_i_Web_can_stand ?h_l_Web_can_stand ?h_c_Web_can_stand ?h_k_Web_can_stand ?h_a_asked_twice ?h_l_asked_twice ?h_c_asked_twice ?h_k_asked_twice ?h_a_Web_init ?h_i_Web_init ?h_l_Web_init ?h_c_Web_init ?h_k_Web_init ?h_kd_Web_init_start ?h_a_NoNode_init ?h_i_NoNode_init ?h_l_NoNode_init ?h_c_NoNode_init ?h_k_NoNode_init ?h_a_NoPosition_init ?h_i_NoPosition_init ?h_l_NoPosition_init ?h_c_NoPosition_init ?h_k_NoPosition_init ?h_a_Web_getitem ?h_i_Web_getitem ?h_fn_Web_getitem ?h_l_Web_getitem ?h_c_Web_getitem ?h_k_Web_getitem ?h_a_Web_led_to ?h_i_Web_led_to ?h_l_Web_led_to ?h_c_Web_led_to ?h_k_Web_led_to ?h_a_Web_reached ?h_i_Web_reached ?h_l_Web_reached ?h_c_Web_reached ?h_k_Web_reached ?h_a_splits ?h_l_splits ?h_c_splits ?h_k_splits ?h_a_harmless ?h_l_harmless ?h_c_harmless ?h_k_harmless ?h_a_l_draw ?h_l_l_draw ?h_c_l_draw ?h_k_l_draw ?h_a_l_target ?h_l_l_target ?h_c_l_target ?h_k_l_target ?h_a_l_below ?h_l_l_below ?h_c_l_below ?h_k_l_below ?h_a_l_pool ?h_l_l_pool ?h_c_l_pool ?h_k_l_pool ?h_a_l_nodes ?h_l_l_nodes ?h_c_l_nodes ?h_k_l_nodes ?h_a_l_start ?h_l_l_start ?h_c_l_start ?h_k_l_start ?h_a_l_one_web ?h_l_l_one_web ?h_c_l_one_web ?h_k_l_one_web ?h_a_l_marks ?h_l_l_marks ?h_c_l_marks ?h_k_l_marks ?h_a_l_reached ?h_l_l_reached ?h_c_l_reached ?h_k_l_reached ?h_a_law ?h_l_law ?h_c_law ?h_k_law ?h_ti_NoNode ?h_ti_NoPosition ?h_g_QUESTIONS ?h_g_MOST_ENDS ?h_z_all ?h_z_enumerate ?h_z_int ?h_z_len ?h_z_list ?h_z_range ?h_z_reversed ?h_z_set ?h_z_sorted ?h_z_tuple
    (case h_g_TestError => k_is)
    (case h_g_NoNode => k_is)
    (case h_g_NoPosition => k_is)
    (case h_g_Web => k_is)
    (case h_pg_Web => k_is)
    (case h_hd_Web => k_is)
    (case h_po_Web => k_is)
    (case h_sa_Web => k_is)
    (case h_mkk_Web => k_is)
    (case h_kc_Web => k_is)
    (case h_nA_Web_nodes => k_is)
    (case h_nA_Web_ends => k_is)
    (case h_nA_Web_start => k_is)
    (case h_bga_TestError => k_is)
    (case h_ty_TestError => k_is)
    (case h_brd_TestError => k_is)
    (case h_bfi_TestError => k_is)
    (case h_xl_NoNode => k_is)
    (case h_sa_NoNode => k_is)
    (case h_eb_NoNode => k_is)
    (case h_ty_NoNode => k_is)
    (case h_kc_NoNode => k_is)
    (case h_ga_NoNode => k_is)
    (case h_gg_NoNode => k_is)
    (case h_hd_NoNode => k_is)
    (case h_ss_NoNode => first | rfl | k_is)
    (case h_ic1_NoNode => k_is)
    (case h_eg2 => k_is)
    (case h_eg3 => k_is)
    (case h_ic4_NoNode => k_is)
    (case h_nf_NoNode_index => k_is)
    (case h_sb_NoNode => k_is)
    (case h_icl_TestError => k_is)
    (case h_xl_NoPosition => k_is)
    (case h_sa_NoPosition => k_is)
    (case h_eb_NoPosition => k_is)
    (case h_ty_NoPosition => k_is)
    (case h_kc_NoPosition => k_is)
    (case h_ga_NoPosition => k_is)
    (case h_gg_NoPosition => k_is)
    (case h_hd_NoPosition => k_is)
    (case h_ss_NoPosition => first | rfl | k_is)
    (case h_ic1_NoPosition => k_is)
    (case h_ic4_NoPosition => k_is)
    (case h_nf_NoPosition_place => k_is)
    (case h_sb_NoPosition => k_is)
    (case h_a_is_question => k_is)
    (case h_l_is_question => k_is)
    (case h_c_is_question => k_is)
    (case h_k_is_question => k_is)
    (case h_a_Web_contains => k_is)
    (case h_i_Web_contains => k_is)
    (case h_l_Web_contains => k_is)
    (case h_c_Web_contains => k_is)
    (case h_k_Web_contains => k_is)
    (case h_a_Web_len => k_is)
    (case h_i_Web_len => k_is)
    (case h_l_Web_len => k_is)
    (case h_c_Web_len => k_is)
    (case h_k_Web_len => k_is)
    (case h_a_Web_first => k_is)
    (case h_i_Web_first => k_is)
    (case h_l_Web_first => k_is)
    (case h_c_Web_first => k_is)
    (case h_k_Web_first => k_is)
    (case h_a_Web_can_stand => k_is)
    (case h_i_Web_can_stand => k_is)
    (case h_l_Web_can_stand => k_is)
    (case h_c_Web_can_stand => k_is)
    (case h_k_Web_can_stand => k_is)
    (case h_a_asked_twice => k_is)
    (case h_l_asked_twice => k_is)
    (case h_c_asked_twice => k_is)
    (case h_k_asked_twice => k_is)
    (case h_a_Web_init => k_is)
    (case h_i_Web_init => k_is)
    (case h_l_Web_init => k_is)
    (case h_c_Web_init => k_is)
    (case h_k_Web_init => k_is)
    (case h_kd_Web_init_start => k_is)
    (case h_a_NoNode_init => k_is)
    (case h_i_NoNode_init => k_is)
    (case h_l_NoNode_init => k_is)
    (case h_c_NoNode_init => k_is)
    (case h_k_NoNode_init => k_is)
    (case h_a_NoPosition_init => k_is)
    (case h_i_NoPosition_init => k_is)
    (case h_l_NoPosition_init => k_is)
    (case h_c_NoPosition_init => k_is)
    (case h_k_NoPosition_init => k_is)
    (case h_a_Web_getitem => k_is)
    (case h_i_Web_getitem => k_is)
    (case h_fn_Web_getitem => k_is)
    (case h_l_Web_getitem => k_is)
    (case h_c_Web_getitem => k_is)
    (case h_k_Web_getitem => k_is)
    (case h_a_Web_led_to => k_is)
    (case h_i_Web_led_to => k_is)
    (case h_l_Web_led_to => k_is)
    (case h_c_Web_led_to => k_is)
    (case h_k_Web_led_to => k_is)
    (case h_a_Web_reached => k_is)
    (case h_i_Web_reached => k_is)
    (case h_l_Web_reached => k_is)
    (case h_c_Web_reached => k_is)
    (case h_k_Web_reached => k_is)
    (case h_a_splits => k_is)
    (case h_l_splits => k_is)
    (case h_c_splits => k_is)
    (case h_k_splits => k_is)
    (case h_a_harmless => k_is)
    (case h_l_harmless => k_is)
    (case h_c_harmless => k_is)
    (case h_k_harmless => k_is)
    (case h_a_l_draw => k_is)
    (case h_l_l_draw => k_is)
    (case h_c_l_draw => k_is)
    (case h_k_l_draw => k_is)
    (case h_a_l_target => k_is)
    (case h_l_l_target => k_is)
    (case h_c_l_target => k_is)
    (case h_k_l_target => k_is)
    (case h_a_l_below => k_is)
    (case h_l_l_below => k_is)
    (case h_c_l_below => k_is)
    (case h_k_l_below => k_is)
    (case h_a_l_pool => k_is)
    (case h_l_l_pool => k_is)
    (case h_c_l_pool => k_is)
    (case h_k_l_pool => k_is)
    (case h_a_l_nodes => k_is)
    (case h_l_l_nodes => k_is)
    (case h_c_l_nodes => k_is)
    (case h_k_l_nodes => k_is)
    (case h_a_l_start => k_is)
    (case h_l_l_start => k_is)
    (case h_c_l_start => k_is)
    (case h_k_l_start => k_is)
    (case h_a_l_one_web => k_is)
    (case h_l_l_one_web => k_is)
    (case h_c_l_one_web => k_is)
    (case h_k_l_one_web => k_is)
    (case h_a_l_marks => k_is)
    (case h_l_l_marks => k_is)
    (case h_c_l_marks => k_is)
    (case h_k_l_marks => k_is)
    (case h_a_l_reached => k_is)
    (case h_l_l_reached => k_is)
    (case h_c_l_reached => k_is)
    (case h_k_l_reached => k_is)
    (case h_a_law => k_is)
    (case h_l_law => k_is)
    (case h_c_law => k_is)
    (case h_k_law => k_is)
    (case h_ti_NoNode => k_is)
    (case h_ti_NoPosition => k_is)
    (case h_g_QUESTIONS => k_is)
    (case h_g_MOST_ENDS => k_is)
    (case h_z_all => k_is)
    (case h_z_enumerate => k_is)
    (case h_z_int => k_is)
    (case h_z_len => k_is)
    (case h_z_list => k_is)
    (case h_z_range => k_is)
    (case h_z_reversed => k_is)
    (case h_z_set => k_is)
    (case h_z_sorted => k_is)
    (case h_z_tuple => k_is)
